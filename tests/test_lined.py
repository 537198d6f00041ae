"""[70], [71], [73] The lined way, with [40] to [45] as of each way."""

import unittest

from makeskept.errors import Elder, NoChanges, NoMake, NoPlace, NoWorth
from makeskept.lined import Lined
from tests.things import need_refusal, need_too_many, no_changes, no_makes, no_places, no_worths
from tests.way_books import LinedBook
from tests.ways import AllTests


class LinedTest(AllTests, unittest.TestCase):
    """What each way tells, of the lined way, with its boxes."""

    kind = Lined
    word = "lined"
    book = LinedBook
    lines = True

    def own_told(self, rows):
        return [rows.box(place) for place in range(rows.size())]

    def own_of_book(self, book):
        return [book.box(place) for place in range(book.size())]


class BoxesTest(unittest.TestCase):
    """[71], [73] Boxes behind each put and each letting go."""

    def boxes(self, rows):
        return [rows.box(place) for place in range(rows.size())]

    def test_behind_puts(self):
        rows = Lined([7, 8, 9])
        self.assertEqual(self.boxes(rows), [[(0, 7)], [(0, 8)], [(0, 9)]])
        self.assertEqual((rows.room(), rows.steps()), (3, 0))
        rows.put(0, 1, 5)
        self.assertEqual(self.boxes(rows), [[(0, 7)], [(0, 8), (1, 5)], [(0, 9)]])
        rows.put_all(1, [(1, 5), (0, -1)])
        self.assertEqual(self.boxes(rows), [[(0, 7), (3, -1)], [(0, 8), (1, 5), (2, 5)], [(0, 9)]])
        self.assertEqual((rows.room(), rows.steps()), (6, 3))

    def test_behind_makes_that_are_let_go(self):
        rows = Lined([7, 8])
        rows.put_all(0, [(0, 1), (1, 2), (0, 3), (0, 4), (1, 5)])
        self.assertEqual(self.boxes(rows), [[(0, 7), (1, 1), (3, 3), (4, 4)], [(0, 8), (2, 2), (5, 5)]])
        steps = rows.steps()
        self.assertEqual(rows.let_go(3), [(0, 3)])
        self.assertEqual(self.boxes(rows), [[(0, 7), (1, 1), (4, 4)], [(0, 8), (2, 2), (5, 5)]])
        self.assertEqual(rows.let_go(1), [])
        self.assertEqual(rows.let_go(0), [(0, 0), (1, 0)])
        self.assertEqual(self.boxes(rows), [[(1, 1), (4, 4)], [(2, 2), (5, 5)]])
        self.assertEqual(rows.let_go(5), [(1, 5)])
        self.assertEqual(rows.let_go(2), [(0, 1)])
        self.assertEqual(self.boxes(rows), [[(4, 4)], [(2, 2)]])
        self.assertEqual((rows.room(), rows.steps()), (2, steps))
        self.assertEqual(rows.row(4), [4, 2])

    def test_a_box_is_a_new_list_of_tuples_and_counts_no_step(self):
        rows = Lined([7, 8])
        rows.put(0, 0, 1)
        box = rows.box(0)
        self.assertIs(box.__class__, list)
        self.assertIs(box[0].__class__, tuple)
        box[0] = (0, 77)
        box.append((2, 78))
        self.assertEqual(rows.box(0), [(0, 7), (1, 1)])
        kept = rows.box(0)
        rows.put(1, 0, 2)
        self.assertEqual(kept, [(0, 7), (1, 1)])
        self.assertEqual(rows.row(0), [7, 8])
        self.assertEqual(rows.steps(), 2 + 3)

    def test_no_place_of_a_box(self):
        for size in (1, 2, 16):
            rows = Lined([5] * size)
            rows.put(0, 0, 1)
            for place in no_places(size):
                need_refusal(self, NoPlace, {"found": place}, rows.box, place)
            self.assertEqual(rows.steps(), 1)

    def test_boxes_of_copies_go_their_own_way(self):
        rows = Lined([7, 8])
        rows.put_all(0, [(0, 1), (0, 2)])
        other = rows.copied()
        other.put(2, 0, 3)
        other.let_go(1)
        self.assertEqual(rows.box(0), [(0, 7), (1, 1), (2, 2)])
        self.assertEqual(other.box(0), [(0, 7), (2, 2), (3, 3)])
        rows.put(2, 1, 4)
        self.assertEqual(other.box(1), [(0, 8)])


class HalvingTest(unittest.TestCase):
    """[70] Looks by halving."""

    def looks(self, rows, make, place):
        """How many steps the ask of one place counts."""
        ahead = rows.steps()
        rows.at(make, place)
        return rows.steps() - ahead

    def test_a_box_of_one_turn_counts_one_step(self):
        rows = Lined([7, 8])
        for make in range(63):
            rows.put(make, 0, make)
        self.assertEqual([self.looks(rows, make, 1) for make in range(64)], [1] * 64)

    def test_boxes_of_two_three_five_and_six_turns(self):
        rows = Lined([7])
        rows.put(0, 0, 1)
        self.assertEqual([self.looks(rows, make, 0) for make in range(2)], [2, 2])
        rows.put(1, 0, 2)
        self.assertEqual([self.looks(rows, make, 0) for make in range(3)], [2, 3, 3])
        rows.put_all(2, [(0, 3), (0, 4)])
        self.assertEqual([self.looks(rows, make, 0) for make in range(5)], [3, 3, 3, 4, 4])
        rows.put(4, 0, 5)
        self.assertEqual([self.looks(rows, make, 0) for make in range(6)], [3, 4, 4, 3, 4, 4])

    def test_a_box_of_64_turns(self):
        rows = Lined([7])
        for make in range(63):
            rows.put(make, 0, make)
        self.assertEqual([self.looks(rows, make, 0) for make in range(64)], [7] * 64)
        self.assertEqual([rows.at(make, 0) for make in range(64)], [7] + list(range(63)))

    def test_makes_between_the_turns(self):
        rows = Lined([7, 8])
        rows.put_all(0, [(1, 1), (0, 2), (1, 3), (1, 4), (0, 5), (1, 6)])
        self.assertEqual(rows.box(0), [(0, 7), (2, 2), (5, 5)])
        self.assertEqual([self.looks(rows, make, 0) for make in range(7)], [2, 2, 3, 3, 3, 3, 3])
        self.assertEqual([rows.at(make, 0) for make in range(7)], [7, 7, 2, 2, 2, 5, 5])

    def test_rows_and_stretches_place_by_place(self):
        rows = Lined([7, 8, 9])
        rows.put_all(0, [(0, 1), (0, 2), (2, 3)])
        for ask, steps in ((lambda: rows.row(0), 2 + 1 + 2), (lambda: rows.row(3), 3 + 1 + 2),
                           (lambda: rows.stretch(3, 1, 3), 3), (lambda: rows.stretch(2, 0, 2), 4)):
            ahead = rows.steps()
            ask()
            self.assertEqual(rows.steps() - ahead, steps)

    def test_what_was_let_go_is_looked_at_no_more(self):
        rows = Lined([7])
        for make in range(15):
            rows.put(make, 0, make)
        self.assertEqual(self.looks(rows, 0, 0), 5)
        for make in range(1, 15):
            self.assertEqual(rows.let_go(make), [(0, make)])
        self.assertEqual([self.looks(rows, make, 0) for make in (0, 15)], [2, 2])


class ElderTest(unittest.TestCase):
    """[71] Only the newest one of all that are there is put on."""

    def line(self):
        rows = Lined([7, 8, 9])
        rows.put_all(0, [(0, 1), (1, 2), (2, 3)])
        return rows

    def told(self, rows):
        kept = [rows.copied().row(make) for make in rows.makes()]
        boxes = [rows.box(place) for place in range(rows.size())]
        return rows.many(), rows.makes(), rows.steps(), rows.room(), kept, boxes

    def test_elder_makes_are_refused(self):
        rows = self.line()
        ahead = self.told(rows)
        for make in (0, 1, 2):
            need_refusal(self, Elder, {"found": make}, rows.put, make, 0, 5)
            need_refusal(self, Elder, {"found": make}, rows.put_all, make, [(0, 5)])
            need_refusal(self, Elder, {"found": make}, rows.put_all, make, ((0, 5), (1, 6)))
        self.assertEqual(self.told(rows), ahead)
        self.assertEqual(rows.put(3, 0, 5), 4)
        need_refusal(self, Elder, {"found": 3}, rows.put, 3, 0, 5)

    def test_not_where_there_are_no_changes(self):
        rows = self.line()
        ahead = self.told(rows)
        for make in range(4):
            self.assertEqual(rows.put_all(make, []), [])
            self.assertEqual(rows.put_all(make, ()), [])
        self.assertEqual(self.told(rows), ahead)

    def test_behind_no_make_no_place_no_worth_and_no_changes(self):
        rows = self.line()
        rows.let_go(1)
        ahead = self.told(rows)
        for make in [1] + no_makes(4):
            need_refusal(self, NoMake, {"found": make}, rows.put, make, 0, 5)
            need_refusal(self, NoMake, {"found": make}, rows.put_all, make, [(0, 5)])
        for place in no_places(3):
            need_refusal(self, NoPlace, {"found": place}, rows.put, 0, place, 5)
            need_refusal(self, NoPlace, {"found": place}, rows.put, 2, place, None)
        for worth in no_worths():
            need_refusal(self, NoWorth, {"found": worth}, rows.put, 0, 0, worth)
        for changes in no_changes(3):
            need_refusal(self, NoChanges, {"found": changes}, rows.put_all, 0, changes)
        self.assertEqual(self.told(rows), ahead)

    def test_ahead_of_too_many(self):
        rows = Lined([7, 8])
        for make in range(63):
            rows.put(make, 0, make)
        ahead = self.told(rows)
        for make in (0, 30, 62):
            need_refusal(self, Elder, {"found": make}, rows.put, make, 0, 5)
            need_refusal(self, Elder, {"found": make}, rows.put_all, make, [(0, 5), (1, 6)])
        need_too_many(self, 65, rows.put, 63, 0, 5)
        need_too_many(self, 66, rows.put_all, 63, [(0, 5), (1, 6)])
        self.assertEqual(self.told(rows), ahead)

    def test_nothing_is_put_any_more_where_the_newest_one_was_let_go(self):
        rows = self.line()
        self.assertEqual(rows.let_go(3), [(2, 3)])
        ahead = self.told(rows)
        need_refusal(self, NoMake, {"found": 3}, rows.put, 3, 0, 5)
        for make in (0, 1, 2):
            need_refusal(self, Elder, {"found": make}, rows.put, make, 0, 5)
            need_refusal(self, Elder, {"found": make}, rows.put_all, make, [(0, 5)])
            self.assertEqual(rows.put_all(make, []), [])
        self.assertEqual(self.told(rows), ahead)
        other = rows.copied()
        need_refusal(self, Elder, {"found": 2}, other.put, 2, 0, 5)

    def test_the_newest_one_though_all_others_were_let_go(self):
        rows = self.line()
        for make in (0, 1, 2):
            rows.let_go(make)
        self.assertEqual(rows.put(3, 0, 5), 4)
        self.assertEqual(rows.row(4), [5, 2, 3])
        self.assertEqual(rows.box(0), [(1, 1), (4, 5)])


class InterfaceTest(unittest.TestCase):
    def test_what_the_interface_lists_is_defined_in_the_class_and_the_file(self):
        self.assertEqual(Lined.__module__, "makeskept.lined")
        self.assertIn("box", vars(Lined))


if __name__ == "__main__":
    unittest.main()
