"""[90] to [93] Searching all makes of a row."""

import unittest

from makeskept import searching
from makeskept.errors import NoMake, NoPlace, NoWay, NoWorth
from makeskept.searching import alike, first_unlike, line_of_place, stood, worths_of
from tests.five import makes_of, pairs, put_beside, scripted, some_deeds
from tests.test_rows import Whole
from tests.things import GREAT, need_refusal, no_makes, no_places, no_ways, no_worths

MOST = 10 ** 30 - 1


def gathered(keys):
    """The makes in lists by their keys, in the order in which the keys come first; makes rise."""
    found = []
    for make, key in sorted(keys.items()):
        for other, makes in found:
            if other == key:
                makes.append(make)
                break
        else:
            found.append((key, [make]))
    return found


def worths_at(book, place):
    return {make: book.rows[make][place] for make in book.kept}


def first_unlike_of(book, one, other):
    unlike = [at for at in range(book.size()) if book.rows[one][at] != book.rows[other][at]]
    return unlike[0] if unlike else None


def line_of_place_of(book, make, place):
    needed = {writer for at, writer in book.needed_writes() if at == place}
    wrote = [number for number in book.lines[make] if number == 0 or book.places[number] == place]
    return [(number, book.rows[number][place]) for number in wrote if number in needed]


class BesideBooksTest(unittest.TestCase):
    """[90] to [93] Rows of the five ways behind puts and lettings go."""

    def check(self, draws, book, rows):
        for place in range(book.size()):
            worths = worths_at(book, place)
            for worth in sorted(set(worths.values())) + [99, MOST, -MOST]:
                expected = [make for make in sorted(book.kept) if book.rows[make][place] == worth]
                self.assertEqual(stood(rows, place, worth), expected)
            told = worths_of(rows, place)
            self.assertIs(told.__class__, dict)
            self.assertEqual(list(told.items()), gathered(worths))
        same = gathered({make: book.rows[make] for make in book.kept})
        self.assertEqual(alike(rows), [makes for _, makes in same])
        for one, other in pairs(draws, book, 30):
            self.assertEqual(first_unlike(rows, one, other), first_unlike_of(book, one, other))
        for _ in range(30):
            make, place = draws.among(book.kept), draws.below(book.size())
            told = line_of_place(rows, make, place)
            self.assertEqual(told, line_of_place_of(book, make, place))
            self.assertEqual(told[-1][1], book.rows[make][place])

    def run_beside(self, beginning, lines):
        draws, book, ways = scripted(beginning, 0, lines)
        for _ in range(4):
            some_deeds(draws, book, ways, 18, lines)
            for rows in ways.values():
                ahead = makes_of(rows)
                self.check(draws, book, rows)
                self.assertEqual(makes_of(rows), ahead)

    def test_trees(self):
        for beginning in range(600, 609):
            self.run_beside(beginning, False)

    def test_lines(self):
        for beginning in range(620, 626):
            self.run_beside(beginning, True)


class SearchingCase(unittest.TestCase):
    """What all ways tell, which is the same."""

    def told(self, ways, ask, *arguments):
        found = [ask(rows, *arguments) for rows in ways.values()]
        self.assertEqual(found, [found[0]] * len(found))
        return found[0]


class StoodTest(SearchingCase):
    """[91] Makes at which a worth stood, and all worths of a place with their makes."""

    def ways(self, gone=()):
        return put_beside([7, 8], [(0, 0, 9), (1, 1, 7), (0, 0, 7), (1, 0, 7), (4, 0, 9), (0, 0, -MOST)], gone)

    def test_makes_at_which_a_worth_stood(self):
        ways = self.ways()
        self.assertEqual(self.told(ways, stood, 0, 7), [0, 3, 4])
        self.assertEqual(self.told(ways, stood, 0, 9), [1, 2, 5])
        self.assertEqual(self.told(ways, stood, 0, 8), [])
        self.assertEqual(self.told(ways, stood, 0, -MOST), [6])
        self.assertEqual(self.told(ways, stood, 1, 7), [2])
        self.assertEqual(self.told(ways, stood, 1, 8), [0, 1, 3, 4, 5, 6])

    def test_kept_makes_alone(self):
        ways = self.ways(gone=(0, 2, 6))
        self.assertEqual(self.told(ways, stood, 0, 7), [3, 4])
        self.assertEqual(self.told(ways, stood, 0, -MOST), [])
        self.assertEqual(self.told(ways, stood, 1, 7), [])
        self.assertEqual(self.told(ways, worths_of, 0), {9: [1, 5], 7: [3, 4]})

    def test_worths_in_the_order_of_the_first_makes(self):
        for rows in self.ways().values():
            self.assertEqual(list(worths_of(rows, 0).items()), [(7, [0, 3, 4]), (9, [1, 2, 5]), (-MOST, [6])])
            self.assertEqual(list(worths_of(rows, 1).items()), [(8, [0, 1, 3, 4, 5, 6]), (7, [2])])
        for rows in self.ways(gone=(0,)).values():
            self.assertEqual(list(worths_of(rows, 0).items()), [(9, [1, 2, 5]), (7, [3, 4]), (-MOST, [6])])

    def test_a_line_in_the_lined_way(self):
        ways = put_beside([7, 8], [(0, 0, 9), (1, 0, 7), (2, 0, 9)], gone=(0,), lines=True)
        self.assertEqual(self.told(ways, stood, 0, 9), [1, 3])
        self.assertEqual(self.told(ways, worths_of, 0), {9: [1, 3], 7: [2]})

    def test_new_lists_and_dicts_each_time(self):
        for rows in self.ways().values():
            told = stood(rows, 0, 7)
            self.assertIs(told.__class__, list)
            told.append(77)
            self.assertEqual(stood(rows, 0, 7), [0, 3, 4])
            table = worths_of(rows, 1)
            self.assertEqual({makes.__class__ for makes in table.values()}, {list})
            table[8].append(77)
            table[5] = [1]
            del table[7]
            self.assertEqual(worths_of(rows, 1), {8: [0, 1, 3, 4, 5, 6], 7: [2]})

    def test_no_place_then_no_worth(self):
        for rows in self.ways(gone=(3,)).values():
            ahead = makes_of(rows)
            for place in no_places(2):
                for worth in (7, None, 10 ** 30):
                    need_refusal(self, NoPlace, {"found": place}, stood, rows, place, worth)
                need_refusal(self, NoPlace, {"found": place}, worths_of, rows, place)
            for worth in no_worths():
                need_refusal(self, NoWorth, {"found": worth}, stood, rows, 0, worth)
            self.assertEqual(makes_of(rows), ahead)


class AlikeTest(SearchingCase):
    """[92] Makes with equal rows, and the least place at which two are unlike."""

    def ways(self, gone=()):
        return put_beside([7, 8, 9], [(0, 0, 5), (1, 0, 7), (0, 2, 4), (2, 2, 4), (1, 0, 5), (4, 0, 5)], gone)

    def test_makes_with_equal_rows(self):
        ways = self.ways()
        self.assertEqual(self.told(ways, alike), [[0, 2], [1, 5], [3, 4], [6]])
        for make in (0, 5, 4):
            for rows in ways.values():
                rows.let_go(make)
        self.assertEqual(self.told(ways, alike), [[1], [2], [3], [6]])

    def test_lists_by_their_first_makes(self):
        self.assertEqual(self.told(self.ways(gone=(0, 1)), alike), [[2], [3, 4], [5], [6]])
        self.assertEqual(self.told(self.ways(gone=(0, 3)), alike), [[1, 5], [2], [4], [6]])
        self.assertEqual(self.told(put_beside([1], [], lines=True), alike), [[0]])
        ways = put_beside([1], [(at, 0, at * 2 % 3) for at in range(7)], lines=True)
        self.assertEqual(self.told(ways, alike), [[0, 3, 6], [1, 4, 7], [2, 5]])

    def test_new_lists_each_time(self):
        for rows in self.ways().values():
            told = alike(rows)
            self.assertEqual([told.__class__, told[0].__class__], [list, list])
            told[0].append(77)
            told.pop()
            self.assertEqual(alike(rows), [[0, 2], [1, 5], [3, 4], [6]])

    def test_the_least_place(self):
        ways = self.ways()
        self.assertEqual(self.told(ways, first_unlike, 0, 1), 0)
        self.assertEqual(self.told(ways, first_unlike, 1, 0), 0)
        self.assertEqual(self.told(ways, first_unlike, 0, 3), 2)
        self.assertEqual(self.told(ways, first_unlike, 1, 6), 2)
        self.assertEqual(self.told(ways, first_unlike, 6, 0), 0)
        for one, other in ((0, 2), (2, 0), (1, 5), (4, 3), (6, 6)):
            self.assertIsNone(self.told(ways, first_unlike, one, other))
        ways = put_beside([0] * 16, [(0, 15, 1), (0, 15, 0)])
        self.assertEqual(self.told(ways, first_unlike, 0, 1), 15)
        self.assertIsNone(self.told(ways, first_unlike, 0, 2))

    def test_no_makes(self):
        for rows in self.ways(gone=(3,)).values():
            ahead = makes_of(rows)
            for make in [3] + no_makes(7):
                for other in (0, 3, None, 99):
                    need_refusal(self, NoMake, {"found": make}, first_unlike, rows, make, other)
                need_refusal(self, NoMake, {"found": make}, first_unlike, rows, 0, make)
            self.assertEqual(makes_of(rows), ahead)


class LineOfPlaceTest(SearchingCase):
    """[93] The line of a place."""

    def test_makes_that_wrote_the_place_along_the_line(self):
        ways = put_beside([7, 8], [(0, 0, 5), (1, 1, 6), (2, 0, 5), (3, 0, 4), (1, 0, 3)])
        self.assertEqual(self.told(ways, line_of_place, 4, 0), [(0, 7), (1, 5), (3, 5), (4, 4)])
        self.assertEqual(self.told(ways, line_of_place, 2, 0), [(0, 7), (1, 5)])
        self.assertEqual(self.told(ways, line_of_place, 5, 0), [(0, 7), (1, 5), (5, 3)])
        self.assertEqual(self.told(ways, line_of_place, 4, 1), [(0, 8), (2, 6)])
        self.assertEqual(self.told(ways, line_of_place, 5, 1), [(0, 8)])
        self.assertEqual(self.told(ways, line_of_place, 0, 0), [(0, 7)])

    def test_makes_on_it_that_were_let_go(self):
        puts = [(0, 0, 5), (1, 1, 6), (2, 0, 5), (3, 0, 4)]
        ways = put_beside([7, 8], puts, gone=(1,), lines=True)
        # Make 1 is still the writer for make 2.
        self.assertEqual(self.told(ways, line_of_place, 4, 0), [(0, 7), (1, 5), (3, 5), (4, 4)])
        for rows in ways.values():
            rows.let_go(2)
        self.assertEqual(self.told(ways, line_of_place, 4, 0), [(0, 7), (3, 5), (4, 4)])
        self.assertEqual(self.told(ways, line_of_place, 4, 1), [(0, 8), (2, 6)])
        for rows in ways.values():
            rows.let_go(0)
        self.assertEqual(self.told(ways, line_of_place, 4, 0), [(3, 5), (4, 4)])
        self.assertEqual(self.told(ways, line_of_place, 3, 1), [(2, 6)])

    def test_writers_for_kept_makes_beside_the_line(self):
        # Make 1 was let go, but make 3, which stands beside the line of make 2, has its worth.
        ways = put_beside([7, 8], [(0, 0, 5), (1, 0, 6), (1, 1, 4)], gone=(0, 1))
        self.assertEqual(self.told(ways, line_of_place, 2, 0), [(1, 5), (2, 6)])
        self.assertEqual(self.told(ways, line_of_place, 3, 0), [(1, 5)])
        self.assertEqual(self.told(ways, line_of_place, 2, 1), [(0, 8)])
        self.assertEqual(self.told(ways, line_of_place, 3, 1), [(0, 8), (3, 4)])

    def test_a_long_line(self):
        ways = put_beside([0], [(at, 0, at + 1) for at in range(63)], lines=True)
        self.assertEqual(self.told(ways, line_of_place, 63, 0), [(at, at) for at in range(64)])
        self.assertEqual(self.told(ways, line_of_place, 30, 0), [(at, at) for at in range(31)])

    def test_new_lists_of_tuples_each_time(self):
        for rows in put_beside([7, 8], [(0, 0, 5)], lines=True).values():
            told = line_of_place(rows, 1, 0)
            self.assertEqual([told.__class__, told[0].__class__], [list, tuple])
            told.append((2, 77))
            self.assertEqual(line_of_place(rows, 1, 0), [(0, 7), (1, 5)])

    def test_no_make_then_no_place(self):
        for rows in put_beside([7, 8], [(0, 0, 5), (1, 1, 6)], gone=(1,), lines=True).values():
            ahead = makes_of(rows)
            for make in [1] + no_makes(3):
                for place in (0, 2, None, -1):
                    need_refusal(self, NoMake, {"found": make}, line_of_place, rows, make, place)
            for place in no_places(2):
                for make in (0, 2):
                    need_refusal(self, NoPlace, {"found": place}, line_of_place, rows, make, place)
            self.assertEqual(makes_of(rows), ahead)


class NoWayTest(unittest.TestCase):
    """[90] What is no row of a way is refused ahead of all else."""

    def test_any_thing(self):
        for thing in no_ways():
            need_refusal(self, NoWay, {"found": thing}, alike, thing)
            for first, second in ((0, 0), (None, None), (-1, GREAT), (thing, thing)):
                for ask in (stood, first_unlike, line_of_place):
                    need_refusal(self, NoWay, {"found": thing}, ask, thing, first, second)
                need_refusal(self, NoWay, {"found": thing}, worths_of, thing, first)

    def test_rows_of_a_way_made_for_a_test_are_taken(self):
        rows = Whole([1, 2])
        rows.put_all(0, [(0, 5), (0, 1)])
        self.assertEqual(stood(rows, 0, 1), [0, 2])
        self.assertEqual(worths_of(rows, 0), {1: [0, 2], 5: [1]})
        self.assertEqual(alike(rows), [[0, 2], [1]])
        self.assertEqual(first_unlike(rows, 0, 1), 0)
        self.assertEqual(line_of_place(rows, 2, 0), [(0, 1), (1, 5), (2, 1)])


class InterfaceTest(unittest.TestCase):
    def test_what_the_interface_lists_is_defined_in_the_file(self):
        for name in "stood worths_of alike first_unlike line_of_place".split():
            self.assertEqual(getattr(searching, name).__module__, "makeskept.searching")


if __name__ == "__main__":
    unittest.main()
