"""[80] to [83] What parts two makes."""

import copy
import unittest

from makeskept import parting
from makeskept.copied import Copied
from makeskept.errors import NoMake, NoWay
from makeskept.parting import is_parting, parted, parted_by_parts, shows_parted, touched
from makeskept.plain import Plain
from tests.books import done, script, some_deed, some_worth
from tests.draws import Draws
from tests.five import KINDS, makes_of, nearest, pairs, put_beside, scripted
from tests.test_rows import Whole
from tests.things import GREAT, need_refusal, no_makes, no_numbers, no_partings, no_ways
from tests.way_books import CopiedBook

MOST = 10 ** 30 - 1


def touched_of(book, one, other):
    """The places that the makes on the way wrote, but for the nearest make of both."""
    both = nearest(book, one, other)
    return sorted({book.places[make] for make in book.way(one, other) if make != both})


def parted_of(book, one, other):
    """What parts the two makes."""
    rows = list(zip(book.rows[one], book.rows[other]))
    return nearest(book, one, other), [(at, *worths) for at, worths in enumerate(rows) if worths[0] != worths[1]]


class BesideBooksTest(unittest.TestCase):
    """[80], [81] All pairs of makes of rows of the five ways, behind puts and lettings go."""

    def run_beside(self, beginning, lines):
        draws, book, ways = scripted(beginning, 60, lines)
        for word, rows in ways.items():
            ahead = makes_of(rows)
            for one, other in pairs(draws, book, 80):
                self.assertEqual(touched(rows, one, other), touched_of(book, one, other), (word, one, other))
                told = parted(rows, one, other)
                self.assertEqual(told, parted_of(book, one, other), (word, one, other))
                self.assertLessEqual({change[0] for change in told[1]}, set(touched_of(book, one, other)))
                self.assertIs(shows_parted(rows, one, other, told), True)
            self.assertEqual(makes_of(rows), ahead)

    def test_trees(self):
        for beginning in range(400, 412):
            self.run_beside(beginning, False)

    def test_lines(self):
        for beginning in range(420, 428):
            self.run_beside(beginning, True)


class TouchedTest(unittest.TestCase):
    """[80] Touched places by hand."""

    def told(self, ways, one, other):
        """What all ways tell, which is the same."""
        found = [touched(rows, one, other) for rows in ways.values()]
        self.assertEqual(found, [found[0]] * len(found))
        return found[0]

    def test_one_with_itself_and_one_above_the_other(self):
        ways = put_beside([1, 2, 3, 4], [(0, 3, 5), (1, 0, 6), (2, 2, 7), (3, 0, 8)], lines=True)
        self.assertEqual([self.told(ways, make, make) for make in range(5)], [[]] * 5)
        self.assertEqual(self.told(ways, 0, 4), [0, 2, 3])
        self.assertEqual(self.told(ways, 4, 0), [0, 2, 3])
        self.assertEqual(self.told(ways, 1, 4), [0, 2])
        self.assertEqual(self.told(ways, 4, 3), [0])
        self.assertEqual(self.told(ways, 2, 3), [2])

    def test_makes_beside_each_other(self):
        ways = put_beside([1, 2, 3, 4], [(0, 1, 5), (1, 3, 6), (1, 0, 7), (3, 2, 8), (2, 3, 9)])
        self.assertEqual(self.told(ways, 5, 4), [0, 2, 3])
        self.assertEqual(self.told(ways, 2, 3), [0, 3])
        self.assertEqual(self.told(ways, 0, 4), [0, 1, 2])

    def test_the_place_of_the_nearest_make_of_both_is_none_of_them(self):
        ways = put_beside([1, 2, 3], [(0, 1, 5), (1, 0, 6), (1, 2, 7)])
        self.assertEqual(self.told(ways, 2, 3), [0, 2])
        self.assertEqual(self.told(ways, 1, 2), [0])
        self.assertEqual(self.told(ways, 2, 1), [0])

    def test_but_where_another_make_on_the_way_wrote_it(self):
        ways = put_beside([1, 2, 3], [(0, 1, 5), (1, 1, 6), (1, 2, 7)])
        self.assertEqual(self.told(ways, 2, 3), [1, 2])
        self.assertEqual(self.told(ways, 1, 2), [1])

    def test_where_the_nearest_make_of_both_was_let_go(self):
        puts = [(0, 1, 5), (1, 0, 6), (1, 2, 7), (0, 0, 8)]
        ways = put_beside([1, 2, 3], puts, gone=(1, 0))
        self.assertEqual(self.told(ways, 2, 3), [0, 2])
        self.assertEqual(self.told(ways, 4, 3), [0, 1, 2])
        self.assertEqual(self.told(ways, 4, 2), [0, 1])

    def test_where_makes_on_the_way_were_let_go(self):
        ways = put_beside([1, 2, 3, 4], [(0, 3, 5), (1, 0, 6), (2, 2, 7)], gone=(1, 2), lines=True)
        self.assertEqual(self.told(ways, 0, 3), [0, 2, 3])
        self.assertEqual(self.told(ways, 3, 3), [])

    def test_worths_that_are_put_back_or_again_are_touched_all_the_same(self):
        ways = put_beside([1, 2, 3], [(0, 1, 5), (1, 1, 2), (2, 0, 1)], lines=True)
        self.assertEqual(self.told(ways, 0, 3), [0, 1])
        self.assertEqual([parted(rows, 0, 3) for rows in ways.values()], [(0, [])] * 5)

    def test_a_new_list_each_time(self):
        for rows in put_beside([1, 2, 3], [(0, 1, 5), (1, 2, 6)], lines=True).values():
            told = touched(rows, 0, 2)
            self.assertIs(told.__class__, list)
            told.append(77)
            self.assertEqual(touched(rows, 0, 2), [1, 2])


class PartedTest(unittest.TestCase):
    """[81] What parts two makes, by hand."""

    def told(self, ways, one, other):
        """What all ways tell, which is the same."""
        found = [parted(rows, one, other) for rows in ways.values()]
        self.assertEqual(found, [found[0]] * len(found))
        return found[0]

    def test_before_is_the_ones_worth_and_behind_the_others(self):
        ways = put_beside([1, 2, 3], [(0, 1, 5), (1, 0, -6), (1, 2, MOST)])
        self.assertEqual(self.told(ways, 0, 3), (0, [(1, 2, 5), (2, 3, MOST)]))
        self.assertEqual(self.told(ways, 3, 0), (0, [(1, 5, 2), (2, MOST, 3)]))
        self.assertEqual(self.told(ways, 2, 3), (1, [(0, -6, 1), (2, 3, MOST)]))
        self.assertEqual(self.told(ways, 3, 2), (1, [(0, 1, -6), (2, MOST, 3)]))
        self.assertEqual(self.told(ways, 2, 2), (2, []))

    def test_places_where_the_worths_are_alike_again(self):
        ways = put_beside([1, 2, 3], [(0, 1, 5), (1, 1, 2), (2, 0, 7), (0, 0, 7), (4, 2, 9)])
        self.assertEqual(self.told(ways, 0, 2), (0, []))
        self.assertEqual(self.told(ways, 1, 2), (1, [(1, 5, 2)]))
        self.assertEqual(self.told(ways, 3, 4), (0, []))
        self.assertEqual(self.told(ways, 3, 5), (0, [(2, 3, 9)]))

    def test_where_the_nearest_make_of_both_was_let_go(self):
        ways = put_beside([1, 2, 3], [(0, 1, 5), (1, 0, 6), (1, 2, 7), (2, 1, 2)], gone=(1, 0))
        self.assertEqual(self.told(ways, 2, 3), (1, [(0, 6, 1), (2, 3, 7)]))
        self.assertEqual(self.told(ways, 4, 3), (1, [(0, 6, 1), (1, 2, 5), (2, 3, 7)]))

    def test_rows_of_sixteen_places_and_of_one(self):
        puts = [(at, at, -at - 1) for at in range(16)]
        ways = put_beside(list(range(16)), puts, lines=True)
        self.assertEqual(self.told(ways, 0, 16), (0, [(at, at, -at - 1) for at in range(16)]))
        self.assertEqual(self.told(ways, 16, 10), (10, [(at, -at - 1, at) for at in range(10, 16)]))
        ways = put_beside([4], [(0, 0, 5), (1, 0, 4)], lines=True)
        self.assertEqual(self.told(ways, 0, 1), (0, [(0, 4, 5)]))
        self.assertEqual(self.told(ways, 2, 0), (0, []))

    def test_a_new_tuple_and_a_new_list_each_time(self):
        for rows in put_beside([1, 2, 3], [(0, 1, 5), (1, 2, 6)], lines=True).values():
            told = parted(rows, 0, 2)
            self.assertEqual([told.__class__, told[0].__class__, told[1].__class__], [tuple, int, list])
            self.assertEqual([change.__class__ for change in told[1]], [tuple, tuple])
            told[1].pop()
            self.assertEqual(parted(rows, 0, 2), (0, [(1, 2, 5), (2, 3, 6)]))

    def test_rows_of_a_way_made_for_a_test_are_taken(self):
        rows = Whole([1, 2, 3])
        rows.put_all(0, [(1, 5), (2, 6)])
        self.assertEqual(touched(rows, 2, 0), [1, 2])
        self.assertEqual(parted(rows, 2, 0), (0, [(1, 5, 2), (2, 6, 3)]))
        self.assertIs(shows_parted(rows, 2, 0, (0, [(1, 5, 2), (2, 6, 3)])), True)


def otherwise(told):
    """What is not the tuple that is told, each with one thing otherwise."""
    both, changes = told
    things = [list(told), (both, tuple(changes)), [both, tuple(changes)], (both,), (changes,), (told,), [told], ()]
    things += [told + (0,), told + (changes,), (changes, both), (both, changes, [])]
    things += [(number, changes) for number in (both + 1, both - 1, -both - 1, GREAT)]
    things += [(thing, changes) for thing in (str(both), None, [both], (both,), True, False)]
    things += [(both, thing) for thing in (None, both, True, "", str(changes), {}, dict.fromkeys(changes))]
    things += [(both, changes + [(15, 1, 2)]), (both, [(0, 1, 2)] + changes), (both, [changes])]
    things += [(both, changes + changes[-1:]), (both, changes + [None])] if changes else []
    for at, change in enumerate(changes):
        others = [list(change), change[:2], change + (0,), change[1:], (change,), change[0], None, True, ()]
        others += [(change[0], change[2], change[1])]
        for spot in range(3):
            number = change[spot]
            others += [change[:spot] + (thing,) + change[spot + 1:] for thing in (number + 1, number - 1, -number - 1)]
            for thing in (str(number), None, [number], (number,), True, False, GREAT):
                others.append(change[:spot] + (thing,) + change[spot + 1:])
        for thing in others:
            things.append((both, changes[:at] + [thing] + changes[at + 1:]))
        things.append((both, changes[:at] + changes[at + 1:]))
    if len(changes) > 1:
        things += [(both, changes[::-1]), (both, changes[1:] + changes[:1])]
    return things


class ShowsPartedTest(unittest.TestCase):
    """[81] Whether a thing is what parts two makes, kind by kind."""

    def ways(self):
        return put_beside([0, 1, 3], [(0, 0, 1), (1, 1, 0), (2, 2, 9), (3, 1, 1)], lines=True)

    def pairs(self):
        return [(one, other) for one in range(5) for other in range(5)]

    def test_what_is_told_and_what_is_like_it(self):
        for rows in self.ways().values():
            for one, other in self.pairs():
                told = parted(rows, one, other)
                self.assertIs(shows_parted(rows, one, other, told), True)
                self.assertIs(shows_parted(rows, one, other, (told[0], list(told[1]))), True)
                self.assertIs(shows_parted(rows, one, other, copy.deepcopy(told)), True)

    def test_one_thing_otherwise(self):
        for word, rows in self.ways().items():
            for one, other in self.pairs():
                for thing in otherwise(parted(rows, one, other)):
                    self.assertIs(shows_parted(rows, one, other, thing), False, (word, one, other, thing))

    def test_what_parts_other_makes(self):
        for rows in self.ways().values():
            told = {pair: parted(rows, *pair) for pair in self.pairs()}
            for pair in self.pairs():
                for other in self.pairs():
                    self.assertIs(shows_parted(rows, *pair, told[other]), told[pair] == told[other])

    def test_a_truth_is_no_number_where_it_equals_one(self):
        for rows in self.ways().values():
            self.assertEqual(parted(rows, 1, 2), (1, [(1, 1, 0)]))
            self.assertIs(shows_parted(rows, 1, 2, (1, [(1, 1, 0)])), True)
            for thing in ((True, [(1, 1, 0)]), (1, [(True, 1, 0)]), (1, [(1, True, 0)]), (1, [(1, 1, False)])):
                self.assertEqual(thing, (1, [(1, 1, 0)]))
                self.assertIs(shows_parted(rows, 1, 2, thing), False)

    def test_any_thing(self):
        for rows in self.ways().values():
            around = [rows, [rows], (0, rows), (rows, []), (0, [rows]), (0, [(rows, 1, 2)]), (0, [[[]]])]
            for thing in no_ways() + around:
                self.assertIs(shows_parted(rows, 0, 3, thing), False)
                self.assertIs(shows_parted(rows, 3, 3, thing), False)
            self.assertIs(shows_parted(rows, 3, 3, (3, [])), True)
            self.assertIs(shows_parted(rows, 3, 3, (3, ())), False)

    def test_the_thing_stays_as_it_was(self):
        for rows in self.ways().values():
            thing = (0, [(0, 0, 1), [1, 2, 3]])
            self.assertIs(shows_parted(rows, 0, 4, thing), False)
            self.assertEqual(thing, (0, [(0, 0, 1), [1, 2, 3]]))


def pairs_looked_at(book, left, right):
    """[82] How many pairs of parts are looked at from this one on."""
    parts = book.parts[left], book.parts[right]
    if left == right or parts[0][0] == "leaf":
        return 1
    return 1 + pairs_looked_at(book, parts[0][3], parts[1][3]) + pairs_looked_at(book, parts[0][4], parts[1][4])


class PartedByPartsTest(unittest.TestCase):
    """[82] The same list in the copied way, and the pairs that were looked at."""

    def test_scripts(self):
        for beginning in range(430, 442):
            draws, book = script(beginning, CopiedBook, False)
            rows = Copied(book.rows[0])
            for _ in range(60):
                name, arguments = some_deed(draws, book, False)
                getattr(rows, name)(*arguments)
                done(book, name, arguments)
            ahead = makes_of(rows)
            steps = rows.steps()
            for one, other in pairs(draws, book, 300):
                looks = pairs_looked_at(book, book.roots[one], book.roots[other])
                self.assertEqual(parted_by_parts(rows, one, other), (parted_of(book, one, other)[1], looks))
            self.assertEqual(rows.steps(), steps)
            self.assertEqual(makes_of(rows), ahead)

    def test_by_hand(self):
        rows = Copied([7, 8, 9, 10])
        rows.put_all(0, [(1, 5), (3, 6), (1, 8)])
        self.assertEqual(parted_by_parts(rows, 0, 0), ([], 1))
        self.assertEqual(parted_by_parts(rows, 0, 1), ([(1, 8, 5)], 5))
        self.assertEqual(parted_by_parts(rows, 1, 0), ([(1, 5, 8)], 5))
        self.assertEqual(parted_by_parts(rows, 1, 2), ([(3, 10, 6)], 5))
        self.assertEqual(parted_by_parts(rows, 2, 0), ([(1, 5, 8), (3, 6, 10)], 7))
        self.assertEqual(parted_by_parts(rows, 0, 3), ([(3, 10, 6)], 7))
        rows.let_go(1)
        self.assertEqual(parted_by_parts(rows, 0, 2), ([(1, 8, 5), (3, 10, 6)], 7))

    def test_a_row_of_one_place_and_one_of_sixteen(self):
        rows = Copied([7])
        rows.put_all(0, [(0, 8), (0, 7)])
        told = [parted_by_parts(rows, *pair) for pair in ((0, 0), (0, 1), (1, 0), (0, 2))]
        self.assertEqual(told, [([], 1), ([(0, 7, 8)], 1), ([(0, 8, 7)], 1), ([], 1)])
        rows = Copied([0] * 16)
        rows.put_all(0, [(at, at + 1) for at in range(16)])
        self.assertEqual(parted_by_parts(rows, 0, 16), ([(at, 0, at + 1) for at in range(16)], 31))
        self.assertEqual(parted_by_parts(rows, 0, 1), ([(0, 0, 1)], 9))
        self.assertEqual(parted_by_parts(rows, 15, 16), ([(15, 0, 16)], 9))

    def test_kinds_and_new_lists(self):
        rows = Copied([7, 8])
        rows.put(0, 0, 5)
        told = parted_by_parts(rows, 0, 1)
        kinds = [told.__class__, told[0].__class__, told[0][0].__class__, told[1].__class__]
        self.assertEqual(kinds, [tuple, list, tuple, int])
        told[0].clear()
        self.assertEqual(parted_by_parts(rows, 0, 1), ([(0, 7, 5)], 3))

    def test_rows_of_other_ways_are_no_rows_of_the_copied_way(self):
        for word, kind in KINDS.items():
            if word != "copied":
                rows = kind([1, 2])
                need_refusal(self, NoWay, {"found": rows}, parted_by_parts, rows, 0, 0)
                need_refusal(self, NoWay, {"found": rows}, parted_by_parts, rows, 5, None)


class RefusalsTest(unittest.TestCase):
    """[80] NoWay ahead of all else, then NoMake of the one, then of the other."""

    def test_no_way(self):
        for thing in no_ways():
            for one, other in ((0, 0), (0, 99), (None, True), (thing, thing)):
                for ask in (touched, parted, parted_by_parts):
                    need_refusal(self, NoWay, {"found": thing}, ask, thing, one, other)
                for shown in ((0, []), None, thing):
                    need_refusal(self, NoWay, {"found": thing}, shows_parted, thing, one, other, shown)

    def test_no_make(self):
        for word, rows in put_beside([1, 2], [(0, 0, 5), (1, 1, 6)], gone=(1,), lines=True).items():
            ahead = makes_of(rows)
            asks = [touched, parted, lambda *things: shows_parted(*things, (0, []))]
            asks += [lambda *things: shows_parted(*things, None)] + ([parted_by_parts] if word == "copied" else [])
            for make in [1] + no_makes(3):
                for ask in asks:
                    for other in [0, 2, 1, 3, -1, None, True, GREAT]:
                        need_refusal(self, NoMake, {"found": make}, ask, rows, make, other)
                    for one in (0, 2):
                        need_refusal(self, NoMake, {"found": make}, ask, rows, one, make)
            self.assertEqual(makes_of(rows), ahead)


class IsPartingTest(unittest.TestCase):
    """[83] Whether a thing is parting changes of a row."""

    def test_rows_of_each_size_as_lists_and_tuples(self):
        draws = Draws(5)
        for size in range(1, 17):
            for many in range(size + 1):
                places = sorted(range(size), key=lambda place: (place * 7 + many) % 17)[:many]
                changes = [(place, some_worth(draws), 50 + draws.below(9)) for place in sorted(places)]
                self.assertIs(is_parting(changes, size), True)
                self.assertIs(is_parting(tuple(changes), size), True)
                for other in range(1, 17):
                    self.assertIs(is_parting(changes, other), not changes or changes[-1][0] < other)

    def test_the_least_and_the_greatest_worths(self):
        for before, behind in ((MOST, -MOST), (-MOST, MOST), (MOST, MOST - 1), (0, -MOST), (0, 1), (-1, 0)):
            self.assertIs(is_parting([(0, before, behind)], 1), True)

    def test_none_at_all(self):
        for size in range(1, 17):
            self.assertIs(is_parting([], size), True)
            self.assertIs(is_parting((), size), True)

    def test_what_is_none(self):
        for size in range(1, 17):
            for thing in no_partings(size):
                self.assertIs(is_parting(thing, size), False, (thing, size))
            for thing in no_ways():
                if thing != [] and thing != ():
                    self.assertIs(is_parting(thing, size), False)

    def test_one_thing_otherwise(self):
        good = [(0, 1, 2), (2, 0, 1), (3, -5, 5)]
        self.assertIs(is_parting(good, 4), True)
        for at, change in enumerate(good):
            wrong = [change[:2], change + (1,), list(change), (change[0], change[1], change[1]), change[0], None]
            for spot in range(3):
                for thing in no_numbers() + [GREAT, -GREAT, 10 ** 30]:
                    wrong.append(change[:spot] + (thing,) + change[spot + 1:])
            wrong += [(place, 1, 2) for place in (-1, 4, 16, good[(at + 1) % 3][0], good[at - 1][0])]
            for thing in wrong:
                for hand in (list, tuple):
                    self.assertIs(is_parting(hand(good[:at] + [thing] + good[at + 1:]), 4), False, thing)
        for order in ((1, 0, 2), (0, 2, 1), (2, 1, 0), (1, 2, 0), (0, 0, 1), (0, 1, 1), (0, 1, 2, 2), (0, 1, 2, 0)):
            self.assertIs(is_parting([good[at] for at in order], 4), False)

    def test_what_is_handed_in_stays(self):
        thing = [(0, 1, 2), (1, 5, 5)]
        self.assertIs(is_parting(thing, 2), False)
        self.assertEqual(thing, [(0, 1, 2), (1, 5, 5)])

    def test_what_parts_two_makes_is_parting_changes(self):
        _, book, _ = scripted(450, 60)
        rows = Plain(book.rows[0])
        for own, place, row in list(zip(book.owns, book.places, book.rows))[1:]:
            rows.put(own, place, row[place])
        for one in range(book.many()):
            self.assertIs(is_parting(parted(rows, one, book.many() - 1)[1], book.size()), True)


class InterfaceTest(unittest.TestCase):
    def test_what_the_interface_lists_is_defined_in_the_file(self):
        for name in "touched parted shows_parted parted_by_parts is_parting".split():
            self.assertEqual(getattr(parting, name).__module__, "makeskept.parting")


if __name__ == "__main__":
    unittest.main()
