"""[70], [72], [73] The boxed way, with [40] to [45] as of each way."""

import unittest

from makeskept.boxed import Boxed
from makeskept.errors import Alone, NoChanges, NoMake, NoPlace, NoWorth
from tests.things import need_refusal, need_too_many, no_changes, no_makes, no_places, no_worths
from tests.way_books import BoxedBook
from tests.ways import AllTests


class BoxedTest(AllTests, unittest.TestCase):
    """What each way tells, of the boxed way, with its order and its boxes."""

    kind = Boxed
    word = "boxed"
    book = BoxedBook

    def own_told(self, rows):
        return rows.in_order(), [rows.box(place) for place in range(rows.size())]

    def own_of_book(self, book):
        return book.order, [book.box(place) for place in range(book.size())]


def boxes(rows):
    return [rows.box(place) for place in range(rows.size())]


def looks(rows, make, place):
    """How many steps the ask of one place counts."""
    ahead = rows.steps()
    rows.at(make, place)
    return rows.steps() - ahead


def put_steps(rows, make, place):
    """How many steps a put counts."""
    ahead = rows.steps()
    rows.put(make, place, 0)
    return rows.steps() - ahead


class OrderTest(unittest.TestCase):
    """[72] The kept makes in a row of their own."""

    def test_behind_each_put(self):
        rows = Boxed([7, 8])
        orders = [[0], [0, 1], [0, 1, 2], [0, 3, 1, 2], [0, 3, 1, 4, 2], [0, 5, 3, 1, 4, 2], [0, 5, 3, 1, 4, 2, 6]]
        self.assertEqual(rows.in_order(), orders[0])
        for at, make in enumerate((0, 1, 0, 1, 0, 2)):
            rows.put(make, at % 2, at)
            self.assertEqual(rows.in_order(), orders[at + 1])
        self.assertEqual(rows.put_all(3, [(0, 1), (1, 2), (0, 3)]), [7, 8, 9])
        self.assertEqual(rows.in_order(), [0, 5, 3, 7, 8, 9, 1, 4, 2, 6])

    def test_behind_each_letting_go(self):
        rows = Boxed([7, 8])
        for make in (0, 1, 0, 1, 0, 2):
            rows.put(make, 0, 5)
        for make, order in ((3, [0, 5, 1, 4, 2, 6]), (0, [5, 1, 4, 2, 6]), (6, [5, 1, 4, 2]), (1, [5, 4, 2])):
            rows.let_go(make)
            self.assertEqual(rows.in_order(), order)
        self.assertEqual(rows.put(4, 1, 6), 7)
        self.assertEqual(rows.in_order(), [5, 4, 7, 2])
        self.assertEqual(rows.put(5, 1, 6), 8)
        self.assertEqual(rows.in_order(), [5, 8, 4, 7, 2])

    def test_the_order_is_a_new_list_and_counts_no_step(self):
        rows = Boxed([7, 8])
        rows.put(0, 0, 1)
        order = rows.in_order()
        self.assertIs(order.__class__, list)
        order.append(2)
        order[0] = 77
        self.assertEqual(rows.in_order(), [0, 1])
        kept = rows.in_order()
        rows.put(0, 1, 2)
        self.assertEqual(kept, [0, 1])
        self.assertEqual(rows.steps(), 2)


class BoxesTest(unittest.TestCase):
    """[72], [73] Boxes behind each put and each letting go."""

    def test_behind_puts(self):
        rows = Boxed([7, 8, 9])
        self.assertEqual(boxes(rows), [[(0, 0, 7)], [(0, 0, 8)], [(0, 0, 9)]])
        self.assertEqual((rows.room(), rows.steps()), (3, 0))
        rows.put(0, 1, 5)
        self.assertEqual(boxes(rows), [[(0, 0, 7)], [(0, 0, 8), (1, 1, 5)], [(0, 0, 9)]])
        rows.put(0, 2, 6)
        self.assertEqual(rows.in_order(), [0, 2, 1])
        self.assertEqual(boxes(rows), [[(0, 0, 7)], [(0, 0, 8), (1, 1, 5)], [(0, 0, 9), (2, 2, 6), (1, 0, 9)]])
        self.assertEqual(rows.room(), 6)

    def test_a_run_is_cut_in_two_by_a_put_in_its_midst(self):
        rows = Boxed([7, 8])
        for make in (0, 1, 2):
            rows.put(make, 1, make)
        self.assertEqual(rows.box(0), [(0, 0, 7)])
        rows.put(1, 0, 5)
        self.assertEqual(rows.in_order(), [0, 1, 4, 2, 3])
        self.assertEqual(rows.box(0), [(0, 0, 7), (4, 4, 5), (2, 0, 7)])
        rows.put(2, 0, 6)
        self.assertEqual(rows.in_order(), [0, 1, 4, 2, 5, 3])
        self.assertEqual(rows.box(0), [(0, 0, 7), (4, 4, 5), (2, 0, 7), (5, 5, 6), (3, 0, 7)])
        rows.put(4, 0, 3)
        self.assertEqual(rows.box(0), [(0, 0, 7), (4, 4, 5), (6, 6, 3), (2, 0, 7), (5, 5, 6), (3, 0, 7)])

    def test_a_put_at_the_end_of_a_run_cuts_nothing(self):
        rows = Boxed([7, 8])
        rows.put(0, 1, 1)
        rows.put(0, 0, 2)
        self.assertEqual(rows.in_order(), [0, 2, 1])
        self.assertEqual(rows.box(0), [(0, 0, 7), (2, 2, 2), (1, 0, 7)])
        rows.put(2, 0, 3)
        self.assertEqual(rows.box(0), [(0, 0, 7), (2, 2, 2), (3, 3, 3), (1, 0, 7)])

    def test_the_same_worth_put_again_is_a_turn_of_its_own(self):
        rows = Boxed([7])
        rows.put(0, 0, 7)
        rows.put(1, 0, 7)
        rows.put(0, 0, 7)
        self.assertEqual(rows.in_order(), [0, 3, 1, 2])
        self.assertEqual(rows.box(0), [(0, 0, 7), (3, 3, 7), (1, 1, 7), (2, 2, 7)])
        self.assertEqual(rows.let_go(3), [(0, 3)])
        self.assertEqual(rows.box(0), [(0, 0, 7), (1, 1, 7), (2, 2, 7)])

    def test_runs_come_together_when_what_parts_them_is_let_go(self):
        rows = Boxed([7, 8])
        for make in (0, 1, 2):
            rows.put(make, 1, make)
        rows.put(1, 0, 5)
        rows.put(4, 0, 6)
        self.assertEqual(rows.box(0), [(0, 0, 7), (4, 4, 5), (5, 5, 6), (2, 0, 7)])
        self.assertEqual(rows.let_go(4), [(0, 4)])
        self.assertEqual(rows.box(0), [(0, 0, 7), (5, 5, 6), (2, 0, 7)])
        self.assertEqual(rows.let_go(5), [(0, 5)])
        self.assertEqual(rows.box(0), [(0, 0, 7)])
        self.assertEqual(rows.room(), 1 + 4)

    def test_runs_that_lose_their_first_or_another_make(self):
        rows = Boxed([7, 8])
        rows.put_all(0, [(0, 1), (1, 2), (1, 3)])
        self.assertEqual(boxes(rows), [[(0, 0, 7), (1, 1, 1)], [(0, 0, 8), (2, 2, 2), (3, 3, 3)]])
        self.assertEqual(rows.let_go(1), [])
        self.assertEqual(boxes(rows), [[(0, 0, 7), (2, 1, 1)], [(0, 0, 8), (2, 2, 2), (3, 3, 3)]])
        self.assertEqual(rows.let_go(3), [(1, 3)])
        self.assertEqual(boxes(rows), [[(0, 0, 7), (2, 1, 1)], [(0, 0, 8), (2, 2, 2)]])
        self.assertEqual(rows.let_go(0), [(0, 0), (1, 0)])
        self.assertEqual(boxes(rows), [[(2, 1, 1)], [(2, 2, 2)]])
        self.assertEqual(rows.room(), 2)
        self.assertEqual(rows.row(2), [1, 2])

    def test_a_writer_that_was_let_go_stays_in_the_turns(self):
        rows = Boxed([7, 8])
        rows.put(0, 0, 1)
        rows.put(1, 1, 2)
        rows.put(1, 1, 3)
        rows.let_go(1)
        rows.let_go(0)
        self.assertEqual(rows.in_order(), [3, 2])
        self.assertEqual(boxes(rows), [[(3, 1, 1)], [(3, 3, 3), (2, 2, 2)]])
        self.assertEqual(rows.put(3, 0, 4), 4)
        self.assertEqual(boxes(rows), [[(3, 1, 1), (4, 4, 4), (2, 1, 1)], [(3, 3, 3), (2, 2, 2)]])

    def test_what_let_go_tells(self):
        rows = Boxed([1, 2, 3])
        for deed in ((0, 0, 4), (1, 1, 5), (1, 0, 6), (2, 0, 7), (0, 2, 8)):
            rows.put(*deed)
        steps = rows.steps()
        told = [rows.let_go(make) for make in (1, 0, 2, 5, 4)]
        self.assertEqual(told, [[], [], [(0, 1)], [(0, 0), (2, 5)], [(0, 4), (1, 2)]])
        self.assertIs(told[0].__class__, list)
        self.assertIs(told[2][0].__class__, tuple)
        need_refusal(self, Alone, {"found": 3}, rows.let_go, 3)
        self.assertEqual((rows.room(), rows.steps()), (3, steps))
        self.assertEqual(rows.row(3), [6, 2, 3])

    def test_the_room_may_be_greater_than_the_writes(self):
        rows = Boxed([7, 8])
        rows.put(0, 1, 1)
        rows.put(0, 0, 2)
        self.assertEqual(rows.box(0), [(0, 0, 7), (2, 2, 2), (1, 0, 7)])
        self.assertEqual(rows.box(1), [(0, 0, 8), (1, 1, 1)])
        self.assertEqual(rows.room(), 5)

    def test_a_box_is_a_new_list_of_tuples_and_counts_no_step(self):
        rows = Boxed([7, 8])
        rows.put(0, 0, 1)
        steps = rows.steps()
        box = rows.box(0)
        self.assertIs(box.__class__, list)
        self.assertIs(box[0].__class__, tuple)
        box[0] = (0, 0, 77)
        box.append((2, 2, 78))
        self.assertEqual(rows.box(0), [(0, 0, 7), (1, 1, 1)])
        kept = rows.box(0)
        rows.put(1, 0, 2)
        self.assertEqual(kept, [(0, 0, 7), (1, 1, 1)])
        self.assertEqual(rows.copied().row(0), [7, 8])
        self.assertEqual((steps, rows.steps()), (1, 1 + 2))

    def test_no_place_of_a_box(self):
        for size in (1, 2, 16):
            rows = Boxed([5] * size)
            rows.put(0, 0, 1)
            for place in no_places(size):
                need_refusal(self, NoPlace, {"found": place}, rows.box, place)
            self.assertEqual(rows.steps(), 1)

    def test_copies_go_their_own_way(self):
        rows = Boxed([7, 8])
        rows.put(0, 0, 1)
        rows.put(0, 0, 2)
        other = rows.copied()
        other.put(2, 0, 3)
        other.let_go(1)
        self.assertEqual((rows.in_order(), other.in_order()), ([0, 2, 1], [0, 2, 3]))
        self.assertEqual(rows.box(0), [(0, 0, 7), (2, 2, 2), (1, 1, 1)])
        self.assertEqual(other.box(0), [(0, 0, 7), (2, 2, 2), (3, 3, 3)])
        rows.put(2, 1, 4)
        self.assertEqual(other.box(1), [(0, 0, 8)])
        self.assertEqual(rows.box(1), [(0, 0, 8), (3, 3, 4), (1, 0, 8)])


class HalvingTest(unittest.TestCase):
    """[70], [72] Looks by halving, of asks and of puts."""

    def line(self, many):
        """A row of one place whose makes stand in the order of their numbers, each a turn of its own."""
        rows = Boxed([7])
        for make in range(many - 1):
            rows.put(make, 0, make)
        return rows

    def test_a_box_of_one_turn_counts_one_step(self):
        rows = Boxed([7, 8])
        for make in range(63):
            rows.put(make // 2, 0, make)
        self.assertEqual([looks(rows, make, 1) for make in range(64)], [1] * 64)

    def test_boxes_of_two_to_six_turns(self):
        for many, steps in ((2, [2, 2]), (3, [2, 3, 3]), (4, [3] * 4), (5, [3, 3, 3, 4, 4]), (6, [3, 4, 4, 3, 4, 4])):
            rows = self.line(many)
            self.assertEqual([looks(rows, make, 0) for make in range(many)], steps)

    def test_a_box_of_64_turns(self):
        rows = self.line(64)
        self.assertEqual([looks(rows, make, 0) for make in range(64)], [7] * 64)
        self.assertEqual([rows.at(make, 0) for make in range(64)], [7] + list(range(63)))

    def test_makes_stand_by_their_order_and_not_by_their_numbers(self):
        rows = Boxed([7])
        for worth in (1, 2, 3, 4):
            rows.put(0, 0, worth)
        self.assertEqual(rows.in_order(), [0, 4, 3, 2, 1])
        self.assertEqual([looks(rows, make, 0) for make in (0, 4, 3, 2, 1)], [3, 3, 3, 4, 4])
        self.assertEqual([rows.at(make, 0) for make in range(5)], [7, 1, 2, 3, 4])

    def test_makes_within_runs(self):
        rows = Boxed([7, 8])
        rows.put_all(0, [(1, 1), (0, 2), (1, 3), (1, 4), (0, 5), (1, 6)])
        self.assertEqual(rows.box(0), [(0, 0, 7), (2, 2, 2), (5, 5, 5)])
        self.assertEqual([looks(rows, make, 0) for make in range(7)], [2, 2, 3, 3, 3, 3, 3])
        self.assertEqual([rows.at(make, 0) for make in range(7)], [7, 7, 2, 2, 2, 5, 5])

    def test_rows_and_stretches_place_by_place(self):
        rows = Boxed([7, 8, 9])
        rows.put_all(0, [(0, 1), (0, 2), (2, 3)])
        for ask, steps in ((lambda: rows.row(0), 2 + 1 + 2), (lambda: rows.row(3), 3 + 1 + 2),
                           (lambda: rows.stretch(3, 1, 3), 3), (lambda: rows.stretch(2, 0, 2), 4)):
            ahead = rows.steps()
            ask()
            self.assertEqual(rows.steps() - ahead, steps)

    def test_what_was_let_go_is_looked_at_no_more(self):
        rows = self.line(16)
        self.assertEqual(looks(rows, 0, 0), 5)
        for make in range(1, 15):
            self.assertEqual(rows.let_go(make), [(0, make)])
        self.assertEqual([looks(rows, make, 0) for make in (0, 15)], [2, 2])

    def test_a_put_counts_the_look_for_the_make_it_is_put_on_ahead_of_it(self):
        rows = Boxed([7, 8])
        self.assertEqual(put_steps(rows, 0, 0), 1)
        self.assertEqual(put_steps(rows, 1, 0), 2)
        self.assertEqual(put_steps(rows, 0, 1), 1)
        # The box of place 0 has the turns of 0, 1 and 2, and make 3 stands in the run of make 0.
        self.assertEqual(rows.in_order(), [0, 3, 1, 2])
        self.assertEqual(put_steps(rows, 3, 0), 2)
        self.assertEqual(rows.box(0), [(0, 0, 7), (4, 4, 0), (1, 1, 0), (2, 2, 0)])
        self.assertEqual(put_steps(rows, 2, 0), 3)
        self.assertEqual(rows.steps(), 9)

    def test_each_put_counts_what_an_ask_of_the_place_would(self):
        rows = Boxed([7, 8, 9])
        for at in range(63):
            make = at * 7 % (at + 1)
            place = at * at % 3
            steps = looks(rows.copied(), make, place)
            self.assertEqual(put_steps(rows, make, place), steps)

    def test_changes_count_put_by_put(self):
        rows = Boxed([7, 8])
        rows.put_all(0, [(0, 1), (0, 2), (0, 3), (1, 4)])
        self.assertEqual(rows.steps(), 1 + 2 + 3 + 1)


class BadThingsTest(unittest.TestCase):
    """Bad things at each door change nothing."""

    def test_on_the_eldest_the_newest_and_those_in_the_middle_all_is_put(self):
        rows = Boxed([7, 8])
        rows.put_all(0, [(0, 1), (1, 2), (0, 3)])
        self.assertEqual([rows.put(make, 0, make) for make in (0, 3, 1, 2)], [4, 5, 6, 7])
        self.assertEqual([rows.row(make) for make in range(8)],
                         [[7, 8], [1, 8], [1, 2], [3, 2], [0, 8], [3, 2], [1, 8], [2, 2]])

    def test_refusals_leave_the_order_the_boxes_and_the_steps(self):
        rows = Boxed([7, 8])
        for at in range(63):
            rows.put(at // 3, at % 2, at)
        rows.let_go(40)
        ahead = (rows.in_order(), boxes(rows), rows.steps(), rows.room(), rows.makes())
        for make in [40] + no_makes(64):
            need_refusal(self, NoMake, {"found": make}, rows.put, make, 0, 5)
            need_refusal(self, NoMake, {"found": make}, rows.put_all, make, [(0, 5)])
            need_refusal(self, NoMake, {"found": make}, rows.let_go, make)
        for place in no_places(2):
            need_refusal(self, NoPlace, {"found": place}, rows.put, 0, place, 5)
        for worth in no_worths():
            need_refusal(self, NoWorth, {"found": worth}, rows.put, 0, 0, worth)
        for changes in no_changes(2):
            need_refusal(self, NoChanges, {"found": changes}, rows.put_all, 0, changes)
        need_too_many(self, 65, rows.put, 0, 0, 5)
        need_too_many(self, 66, rows.put_all, 0, [(0, 5), (1, 6)])
        self.assertEqual((rows.in_order(), boxes(rows), rows.steps(), rows.room(), rows.makes()), ahead)


class InterfaceTest(unittest.TestCase):
    def test_what_the_interface_lists_is_defined_in_the_class_and_the_file(self):
        self.assertEqual(Boxed.__module__, "makeskept.boxed")
        for name in ("in_order", "box", "let_go"):
            self.assertIn(name, vars(Boxed))


if __name__ == "__main__":
    unittest.main()
