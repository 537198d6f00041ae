"""[50] to [53] The turned way, with [40] to [45] as of each way."""

import unittest

from makeskept.errors import Alone, NoChanges, NoMake, NoPlace, NoStretch, NoWorth
from makeskept.turned import Turned
from tests.books import done, script, some_deed
from tests.shapes import shapes
from tests.things import need_refusal, need_too_many, no_makes
from tests.way_books import TurnedBook
from tests.ways import AllTests


def followed(rows, make, worths_at_hand):
    """The worths of a make by the notes that are told, and the worths of the make at hand."""
    notes = rows.notes()
    changes = []
    while make != rows.at_hand():
        place, worth, make = notes[make]
        changes.append((place, worth))
    worths = list(worths_at_hand)
    for place, worth in reversed(changes):
        worths[place] = worth
    return worths


class TurnedCase(unittest.TestCase):
    """What tests of the turned way have."""

    def state(self, rows):
        return rows.at_hand(), rows.notes(), rows.steps()


class TurnedTest(AllTests, unittest.TestCase):
    """What each way tells, of the turned way, with its notes, the make at hand, and worths by following notes."""

    kind = Turned
    word = "turned"
    book = TurnedBook

    def own_told(self, rows):
        return rows.at_hand(), rows.notes(), {make: rows.read_by(make) for make in rows.makes()}

    def own_of_book(self, book):
        return book.hand, book.notes(), {make: book.rows[make] for make in book.kept}

    def test_scripts_with_makes_that_are_brought(self):
        for beginning in range(300, 320):
            draws, book = script(beginning, self.book, False)
            rows = self.kind(book.rows[0])
            for _ in range(60):
                name, arguments = some_deed(draws, book, False)
                self.assertEqual(getattr(rows, name)(*arguments), done(book, name, arguments))
                make = draws.among(book.kept)
                self.assertEqual(rows.bring(make), book.bring(make))
                self.assertEqual(self.own_told(rows), self.own_of_book(book))
                self.assertEqual(followed(rows, make, book.rows[make]), book.rows[make])
            self.check(rows, book)

    def test_every_kept_make_is_brought_at_hand_from_every_other_one(self):
        for owns in shapes().values():
            rows = self.kind([1, 2, 3, 4])
            book = self.book([1, 2, 3, 4])
            for at, own in enumerate(owns[:12]):
                for made in (rows, book):
                    made.put(own, at * at % 4, at)
            for one in book.kept:
                for other in book.kept:
                    for make in (one, other):
                        self.assertEqual(rows.bring(make), book.bring(make))
                        self.assertEqual(self.own_told(rows), self.own_of_book(book))
                    self.assertEqual(rows.steps(), book.steps)


class NotesByHandTest(TurnedCase):
    """[50], [52] Notes behind each deed."""

    def test_at_first_make_0_is_at_hand(self):
        rows = Turned([1, 2, 3])
        self.assertEqual(self.state(rows), (0, {}, 0))
        self.assertEqual(rows.read_by(0), [1, 2, 3])
        self.assertEqual(rows.room(), 3)

    def test_puts(self):
        rows = Turned([1, 2, 3])
        rows.put(0, 0, 4)
        self.assertEqual(self.state(rows), (1, {0: (0, 1, 1)}, 1))
        rows.put(1, 1, 5)
        self.assertEqual(self.state(rows), (2, {0: (0, 1, 1), 1: (1, 2, 2)}, 2))
        rows.put(1, 0, 6)
        self.assertEqual(self.state(rows), (3, {0: (0, 1, 1), 1: (0, 4, 3), 2: (1, 5, 1)}, 4))
        rows.put(0, 2, 7)
        self.assertEqual(self.state(rows), (4, {0: (2, 3, 4), 1: (0, 4, 0), 2: (1, 5, 1), 3: (0, 6, 1)}, 7))
        self.assertEqual(rows.room(), 7)

    def test_a_put_of_the_worth_that_stands_there(self):
        rows = Turned([1, 2])
        rows.put(0, 0, 1)
        self.assertEqual(self.state(rows), (1, {0: (0, 1, 1)}, 1))
        self.assertEqual(rows.bring(0), 1)
        self.assertEqual(self.state(rows), (0, {1: (0, 1, 0)}, 2))

    def test_asks_bring_the_make_and_count_nothing_else(self):
        rows = Turned([1, 2, 3])
        rows.put_all(0, [(0, 4), (1, 5), (0, 6)])
        self.assertEqual(rows.steps(), 3)
        self.assertEqual(rows.at(3, 0), 6)
        self.assertEqual(self.state(rows)[2], 3)
        self.assertEqual(rows.at(1, 0), 4)
        self.assertEqual(self.state(rows), (1, {0: (0, 1, 1), 2: (1, 5, 1), 3: (0, 6, 2)}, 5))
        self.assertEqual(rows.row(1), [4, 2, 3])
        self.assertEqual(rows.stretch(1, 1, 3), [2, 3])
        self.assertEqual(self.state(rows)[2], 5)
        self.assertEqual(rows.row(0), [1, 2, 3])
        self.assertEqual(self.state(rows), (0, {1: (0, 4, 0), 2: (1, 5, 1), 3: (0, 6, 2)}, 6))
        self.assertEqual(rows.stretch(3, 0, 2), [6, 5])
        self.assertEqual(self.state(rows), (3, {0: (0, 1, 1), 1: (1, 2, 2), 2: (0, 4, 3)}, 9))

    def test_reading_by_notes_turns_nothing_and_counts_no_step(self):
        rows = Turned([1, 2, 3])
        rows.put_all(0, [(0, 4), (1, 5), (0, 6)])
        rows.put(1, 2, 7)
        ahead = self.state(rows)
        told = [rows.read_by(make) for make in range(5)]
        self.assertEqual(told, [[1, 2, 3], [4, 2, 3], [4, 5, 3], [6, 5, 3], [4, 2, 7]])
        self.assertEqual(self.state(rows), ahead)

    def test_reading_by_notes_tells_a_new_list(self):
        rows = Turned([1, 2, 3])
        rows.put(0, 0, 4)
        for make in (0, 1):
            worths = rows.read_by(make)
            self.assertIs(worths.__class__, list)
            worths[1] = 77
            worths.append(78)
        self.assertEqual(rows.read_by(1), [4, 2, 3])
        self.assertEqual(rows.row(0), [1, 2, 3])
        self.assertEqual(rows.row(1), [4, 2, 3])

    def test_notes_are_a_new_dict_each_time(self):
        rows = Turned([1, 2, 3])
        rows.put(0, 0, 4)
        notes = rows.notes()
        self.assertIs(notes.__class__, dict)
        self.assertIs(notes[0].__class__, tuple)
        notes[0] = (1, 77, 1)
        notes[5] = (0, 0, 0)
        self.assertEqual(rows.notes(), {0: (0, 1, 1)})
        self.assertEqual(rows.row(0), [1, 2, 3])
        told = rows.notes()
        rows.row(1)
        self.assertEqual(told, {1: (0, 4, 0)})

    def test_what_is_no_kept_make_is_refused_by_reading_and_bringing(self):
        rows = Turned([1, 2, 3])
        rows.put_all(0, [(0, 4), (1, 5), (0, 6)])
        rows.let_go(1)
        rows.let_go(3)
        ahead = self.state(rows)
        for make in [1, 3] + no_makes(4):
            need_refusal(self, NoMake, {"found": make}, rows.read_by, make)
            need_refusal(self, NoMake, {"found": make}, rows.bring, make)
        self.assertEqual(self.state(rows), ahead)

    def test_what_is_refused_brings_nothing_at_hand(self):
        rows = Turned([1, 2, 3])
        for make in range(63):
            rows.put(make, make % 3, make)
        rows.bring(10)
        ahead = self.state(rows)
        need_refusal(self, NoPlace, {"found": 3}, rows.put, 5, 3, 1)
        need_refusal(self, NoWorth, {"found": None}, rows.put, 5, 0, None)
        need_too_many(self, 65, rows.put, 5, 0, 1)
        need_too_many(self, 66, rows.put_all, 5, [(0, 1), (0, 2)])
        changes = [(3, 1)]
        need_refusal(self, NoChanges, {"found": changes}, rows.put_all, 5, changes)
        self.assertEqual(rows.put_all(5, []), [])
        need_refusal(self, NoPlace, {"found": -1}, rows.at, 5, -1)
        need_refusal(self, NoStretch, {"low": 1, "high": 1}, rows.stretch, 5, 1, 1)
        need_refusal(self, NoMake, {"found": 64}, rows.let_go, 64)
        self.assertEqual(self.state(rows), ahead)

    def test_kinds_of_what_is_told(self):
        rows = Turned([1, 2])
        rows.put(0, 0, 4)
        for number in (rows.at_hand(), rows.bring(0), rows.bring(0)):
            self.assertIs(number.__class__, int)


class BringingByHandTest(TurnedCase):
    """[51] A make brought at hand."""

    def test_the_make_at_hand_itself(self):
        rows = Turned([1, 2])
        self.assertEqual(rows.bring(0), 0)
        rows.put(0, 1, 3)
        self.assertEqual(rows.bring(1), 0)
        self.assertEqual(self.state(rows), (1, {0: (1, 2, 1)}, 1))

    def test_up_a_line_and_down_again(self):
        rows = Turned([1])
        for make in range(63):
            rows.put(make, 0, make + 2)
        self.assertEqual(rows.bring(0), 63)
        self.assertEqual(self.state(rows), (0, {make: (0, make + 1, make - 1) for make in range(1, 64)}, 126))
        self.assertEqual(rows.bring(40), 40)
        self.assertEqual(rows.steps(), 166)
        notes = {make: (0, make + 1, make + 1) for make in range(40)}
        notes.update({make: (0, make + 1, make - 1) for make in range(41, 64)})
        self.assertEqual(rows.notes(), notes)

    def test_from_one_branch_to_another_one(self):
        rows = Turned([1, 2, 3])
        rows.put(0, 0, 4)
        rows.put(1, 0, 5)
        rows.put(0, 0, 6)
        rows.put(3, 1, 7)
        ahead = rows.steps()
        self.assertEqual(rows.bring(2), 4)
        self.assertEqual(self.state(rows), (2, {0: (0, 1, 1), 1: (0, 4, 2), 3: (0, 6, 0), 4: (1, 7, 3)}, ahead + 4))
        self.assertEqual([rows.read_by(make) for make in range(5)],
                         [[1, 2, 3], [4, 2, 3], [5, 2, 3], [6, 2, 3], [6, 7, 3]])

    def test_over_a_make_that_was_let_go(self):
        rows = Turned([1, 2, 3])
        rows.put_all(0, [(0, 4), (1, 5), (0, 6)])
        self.assertEqual(rows.let_go(1), [])
        self.assertEqual(rows.let_go(2), [])
        self.assertEqual(rows.bring(0), 3)
        self.assertEqual(self.state(rows), (0, {1: (0, 4, 0), 2: (1, 5, 1), 3: (0, 6, 2)}, 6))


class LettingGoByHandTest(TurnedCase):
    """[53] Which makes are needed, which one is brought at hand, and which are freed."""

    def test_a_leaf_that_is_not_at_hand(self):
        rows = Turned([1, 2, 3])
        rows.put(0, 0, 4)
        rows.put(0, 1, 5)
        steps = rows.steps()
        self.assertEqual(rows.let_go(1), [1])
        self.assertEqual(self.state(rows), (2, {0: (1, 2, 2)}, steps))
        self.assertEqual(rows.room(), 4)

    def test_the_leaf_at_hand(self):
        rows = Turned([1, 2, 3])
        rows.put_all(0, [(0, 4), (1, 5)])
        self.assertEqual(rows.let_go(2), [2])
        self.assertEqual(self.state(rows), (1, {0: (0, 1, 1)}, 3))
        self.assertEqual(rows.let_go(1), [1])
        self.assertEqual(self.state(rows), (0, {}, 4))
        self.assertEqual(rows.room(), 3)

    def test_make_0(self):
        rows = Turned([1, 2, 3])
        rows.put_all(0, [(0, 4), (1, 5)])
        self.assertEqual(rows.let_go(0), [0])
        self.assertEqual(self.state(rows), (2, {1: (1, 2, 2)}, 2))
        self.assertEqual(rows.let_go(1), [1])
        self.assertEqual(self.state(rows), (2, {}, 2))
        self.assertEqual(rows.row(2), [4, 5, 3])

    def test_make_0_at_hand(self):
        rows = Turned([1, 2, 3])
        rows.put_all(0, [(0, 4), (1, 5)])
        rows.bring(0)
        self.assertEqual(rows.let_go(1), [])
        self.assertEqual(self.state(rows), (0, {1: (0, 4, 0), 2: (1, 5, 1)}, 4))
        self.assertEqual(rows.let_go(0), [0, 1])
        self.assertEqual(self.state(rows), (2, {}, 6))

    def test_a_make_in_the_middle_is_needed_for_the_ways_over_it(self):
        rows = Turned([1, 2, 3])
        rows.put_all(0, [(0, 4), (1, 5), (2, 6)])
        rows.bring(1)
        self.assertEqual(rows.let_go(1), [])
        self.assertEqual(rows.at_hand(), 1)
        self.assertEqual(rows.let_go(2), [])
        self.assertEqual(self.state(rows), (1, {0: (0, 1, 1), 2: (1, 5, 1), 3: (2, 6, 2)}, 5))
        self.assertEqual(rows.let_go(0), [0, 1, 2])
        self.assertEqual(self.state(rows), (3, {}, 7))
        self.assertEqual(rows.row(3), [4, 5, 6])

    def test_make_0_between_two_branches(self):
        rows = Turned([1, 2, 3])
        rows.put(0, 0, 4)
        rows.put(1, 1, 5)
        rows.put(0, 2, 6)
        rows.put(3, 0, 7)
        rows.bring(0)
        self.assertEqual([rows.let_go(make) for make in (0, 3)], [[], []])
        self.assertEqual(rows.at_hand(), 0)
        steps = rows.steps()
        self.assertEqual(rows.let_go(4), [0, 3, 4])
        self.assertEqual(self.state(rows), (1, {2: (1, 5, 1)}, steps + 1))
        self.assertEqual(rows.read_by(2), [4, 5, 3])

    def test_the_first_needed_make_may_have_been_let_go(self):
        # Makes 2 and 3 on make 1, 4 on 3, 5 on 4: 1 is let go, and stays needed between 0 and 2.
        rows = Turned([1, 2, 3])
        for deed in ((0, 0, 4), (1, 1, 5), (1, 2, 6), (3, 0, 7), (4, 1, 8)):
            rows.put(*deed)
        self.assertEqual([rows.let_go(make) for make in (1, 3, 4)], [[], [], []])
        steps = rows.steps()
        self.assertEqual(rows.let_go(5), [3, 4, 5])
        self.assertEqual(self.state(rows), (1, {0: (0, 1, 1), 2: (1, 5, 1)}, steps + 3))
        need_refusal(self, NoMake, {"found": 1}, rows.bring, 1)
        self.assertEqual([rows.read_by(0), rows.read_by(2)], [[1, 2, 3], [4, 5, 3]])
        self.assertEqual(rows.put(2, 2, 9), 6)
        self.assertEqual(self.state(rows), (6, {0: (0, 1, 1), 1: (1, 2, 2), 2: (2, 3, 6)}, steps + 5))

    def test_freed_makes_are_told_once(self):
        rows = Turned([1])
        rows.put_all(0, [(0, at) for at in range(10)])
        self.assertEqual([rows.let_go(make) for make in (0, 10, 5, 4, 1)], [[0], [10], [], [], [1]])
        self.assertEqual(rows.let_go(2), [2])
        self.assertEqual(rows.let_go(3), [3, 4, 5])
        self.assertEqual([rows.let_go(make) for make in (7, 9, 8)], [[], [9], [7, 8]])
        self.assertEqual(self.state(rows)[:2], (6, {}))
        need_refusal(self, Alone, {"found": 6}, rows.let_go, 6)

    def test_a_freed_make_is_never_at_hand_again(self):
        rows = Turned([1, 2])
        rows.put_all(0, [(0, 3), (1, 4), (0, 5)])
        rows.let_go(0)
        rows.let_go(1)
        self.assertEqual(rows.notes(), {2: (0, 3, 3)})
        rows.put(2, 1, 6)
        self.assertEqual(rows.notes(), {2: (1, 4, 4), 3: (0, 5, 2)})
        self.assertEqual(rows.row(3), [5, 4])

    def test_a_copy_has_the_same_at_hand(self):
        rows = Turned([1, 2, 3])
        rows.put_all(0, [(0, 4), (1, 5), (2, 6)])
        rows.bring(1)
        rows.let_go(1)
        other = rows.copied()
        self.assertEqual(self.state(other), self.state(rows))
        ahead = self.state(rows)
        self.assertEqual(other.let_go(0), [0, 1])
        other.put(2, 0, 9)
        self.assertEqual(self.state(rows), ahead)
        self.assertEqual(rows.read_by(3), [4, 5, 6])
        self.assertEqual(rows.row(0), [1, 2, 3])
        self.assertEqual(other.row(4), [9, 5, 3])


class InterfaceTest(unittest.TestCase):
    def test_what_the_interface_lists_is_defined_in_the_class_and_the_file(self):
        self.assertEqual(Turned.__module__, "makeskept.turned")
        for name in "at_hand notes read_by bring".split():
            self.assertIn(name, vars(Turned))


if __name__ == "__main__":
    unittest.main()
