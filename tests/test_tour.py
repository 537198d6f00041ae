"""[34], [35], [36] Tours of a tree of makes."""

import unittest

from makeskept.errors import NoMake
from makeskept.order import Order
from makeskept.tour import Tour
from tests.shapes import grown, line_of, shapes
from tests.things import need_refusal, need_too_many, no_makes


def marks_in_order(owns):
    """All marks of a tour in their order: make M comes with mark 2 * M, and leaves with the next one."""
    marks = [0, 1]
    for at, own in enumerate(owns):
        coming = marks.index(2 * own)
        marks[coming + 1:coming + 1] = [2 * at + 2, 2 * at + 3]
    return marks


def coming_of(owns):
    """All makes by their coming."""
    return [mark // 2 for mark in marks_in_order(owns) if mark % 2 == 0]


def leaving_of(owns):
    """All makes by their leaving."""
    return [mark // 2 for mark in marks_in_order(owns) if mark % 2 == 1]


def order_of(owns):
    """An order with the same marks, put one by one."""
    order = Order()
    order.behind(0)
    for own in owns:
        order.behind(order.behind(2 * own))
    return order


def told_of_order(order):
    return order.marks(), [order.label(mark) for mark in order.marks()], order.anew()


def told(tour):
    """All that a tour tells of its makes one by one, to see whether it is as it was."""
    makes = range(tour.many())
    of_makes = [(tour.marks_of(make), tour.beneath(make)) for make in makes]
    return of_makes, tour.coming(), tour.leaving(), told_of_order(tour.order())


class GrowingTest(unittest.TestCase):
    """[34] How a tour grows."""

    def test_at_first_make_0_is_there(self):
        tour = Tour()
        self.assertEqual(tour.many(), 1)
        self.assertEqual(tour.marks_of(0), (0, 1))
        self.assertEqual(told(tour), ([((0, 1), [])], [0], [0], ([0, 1], [0, 512], 0)))

    def test_each_make_gets_the_next_number_and_the_next_two_marks(self):
        for owns in shapes().values():
            tour = Tour()
            for at, own in enumerate(owns):
                self.assertEqual(tour.grow(own), at + 1)
                self.assertEqual(tour.many(), at + 2)
                self.assertEqual(tour.marks_of(at + 1), (2 * at + 2, 2 * at + 3))
            for make in range(len(owns) + 1):
                self.assertEqual(tour.marks_of(make), (2 * make, 2 * make + 1))

    def test_the_marks_are_put_behind_the_coming_of_the_make(self):
        for name, owns in shapes().items():
            tour = Tour()
            for at, own in enumerate(owns):
                tour.grow(own)
                self.assertEqual(tour.order().marks(), marks_in_order(owns[:at + 1]), (name, at))

    def test_labels_are_those_of_an_order_with_the_same_puts(self):
        for owns in shapes().values():
            self.assertEqual(told_of_order(grown(Tour(), owns).order()), told_of_order(order_of(owns)))

    def test_by_hand(self):
        tour = grown(Tour(), [0, 0, 1])
        self.assertEqual(tour.order().marks(), [0, 4, 5, 2, 6, 7, 3, 1])
        self.assertEqual([tour.marks_of(make) for make in range(4)], [(0, 1), (2, 3), (4, 5), (6, 7)])
        self.assertEqual(tour.coming(), [0, 2, 1, 3])
        self.assertEqual(tour.leaving(), [2, 3, 1, 0])

    def test_no_make_is_refused_and_nothing_is_changed(self):
        for owns in shapes().values():
            tour = grown(Tour(), owns)
            ahead = told(tour)
            for thing in no_makes(len(owns) + 1):
                need_refusal(self, NoMake, {"found": thing}, tour.grow, thing)
            self.assertEqual(told(tour), ahead)

    def test_there_are_at_most_64_makes_behind_no_make(self):
        for owns in shapes().values():
            if len(owns) == 63:
                tour = grown(Tour(), owns)
                ahead = told(tour)
                for make in range(64):
                    need_too_many(self, 65, tour.grow, make)
                for thing in no_makes(64):
                    need_refusal(self, NoMake, {"found": thing}, tour.grow, thing)
                self.assertEqual(tour.many(), 64)
                self.assertEqual(told(tour), ahead)

    def test_a_tour_grows_on_behind_a_refusal(self):
        tour = grown(Tour(), [0, 1])
        need_refusal(self, NoMake, {"found": 3}, tour.grow, 3)
        self.assertEqual(tour.grow(2), 3)
        self.assertEqual(tour.marks_of(3), (6, 7))

    def test_two_tours_have_nothing_in_common(self):
        one = Tour()
        other = Tour()
        grown(one, [0, 1, 0])
        self.assertEqual(told(other), told(Tour()))
        self.assertEqual(other.grow(0), 1)
        self.assertEqual(one.many(), 4)


class TellingTest(unittest.TestCase):
    """[35] What a tour tells."""

    def test_all_makes_by_coming_and_by_leaving(self):
        for name, owns in shapes().items():
            tour = grown(Tour(), owns)
            self.assertEqual(tour.coming(), coming_of(owns), name)
            self.assertEqual(tour.leaving(), leaving_of(owns), name)

    def test_within(self):
        for name, owns in shapes().items():
            tour = grown(Tour(), owns)
            for other in range(len(owns) + 1):
                line = line_of(owns, other)
                for one in range(len(owns) + 1):
                    self.assertIs(tour.within(one, other), one in line, (name, one, other))

    def test_beneath_by_coming(self):
        for name, owns in shapes().items():
            tour = grown(Tour(), owns)
            for make in range(len(owns) + 1):
                below = [one for one in coming_of(owns) if one != make and make in line_of(owns, one)]
                self.assertEqual(tour.beneath(make), below, (name, make))

    def test_the_later_one_of_two_on_the_same_comes_ahead(self):
        tour = grown(Tour(), [0] * 20)
        self.assertEqual(tour.coming(), [0] + list(range(20, 0, -1)))
        self.assertEqual(tour.leaving(), list(range(20, -1, -1)))
        self.assertEqual(tour.beneath(0), list(range(20, 0, -1)))

    def test_the_marks_of_those_beneath_and_no_others_stand_between(self):
        for owns in shapes().values():
            tour = grown(Tour(), owns)
            order = tour.order()
            for make in range(len(owns) + 1):
                coming, leaving = tour.marks_of(make)
                for other in range(len(owns) + 1):
                    for mark in tour.marks_of(other):
                        between = order.ahead(coming, mark) and order.ahead(mark, leaving)
                        self.assertIs(between, other != make and make in line_of(owns, other))

    def test_the_order_is_a_copy(self):
        tour = grown(Tour(), [0, 0, 1])
        ahead = told(tour)
        order = tour.order()
        self.assertIs(order.__class__, Order)
        self.assertEqual(order.behind(0), 8)
        order.drop(2)
        order.drop(1)
        for _ in range(30):
            order.behind(4)
        self.assertEqual(told(tour), ahead)
        self.assertEqual(tour.grow(3), 4)
        self.assertEqual(tour.marks_of(4), (8, 9))
        self.assertEqual(order.marks()[:2], [0, 8])
        self.assertEqual(tour.order().marks(), marks_in_order([0, 0, 1, 3]))

    def test_an_order_that_was_told_stays_as_it_was(self):
        tour = grown(Tour(), [0])
        order = tour.order()
        ahead = told_of_order(order)
        grown(tour, [0, 1, 2])
        self.assertEqual(told_of_order(order), ahead)

    def test_lists_are_new_ones_each_time(self):
        tour = grown(Tour(), [0, 1, 0, 1])
        ahead = told(tour)
        asks = [lambda make=make: tour.beneath(make) for make in (0, 1, 4)]
        for ask in [tour.coming, tour.leaving] + asks:
            makes = ask()
            self.assertIs(makes.__class__, list)
            makes.insert(0, 77)
            makes.append(88)
            self.assertEqual(ask(), makes[1:-1])
        self.assertEqual(told(tour), ahead)
        self.assertEqual(tour.grow(4), 5)

    def test_kinds_of_what_is_told(self):
        tour = grown(Tour(), [0, 1])
        marks = tour.marks_of(2)
        self.assertIs(marks.__class__, tuple)
        for number in marks + (tour.many(), tour.grow(0)):
            self.assertIs(number.__class__, int)

    def test_no_make_is_refused(self):
        for owns in ([], [0], [0, 1, 0], range(63)):
            tour = grown(Tour(), owns)
            for ask in (tour.marks_of, tour.beneath):
                for thing in no_makes(len(owns) + 1):
                    need_refusal(self, NoMake, {"found": thing}, ask, thing)

    def test_within_refuses_the_first_one_first(self):
        tour = grown(Tour(), [0, 1, 0])
        for thing in no_makes(4):
            need_refusal(self, NoMake, {"found": thing}, tour.within, thing, thing)
            for make in range(4):
                need_refusal(self, NoMake, {"found": thing}, tour.within, thing, make)
                need_refusal(self, NoMake, {"found": thing}, tour.within, make, thing)
            for other in no_makes(4):
                need_refusal(self, NoMake, {"found": thing}, tour.within, thing, other)


class CopyingTest(unittest.TestCase):
    """[36] Copies of a tour."""

    def test_a_copy_tells_the_same(self):
        for owns in shapes().values():
            tour = grown(Tour(), owns)
            ahead = told(tour)
            copy = tour.copied()
            self.assertIs(copy.__class__, Tour)
            self.assertIsNot(copy, tour)
            self.assertEqual(copy.many(), len(owns) + 1)
            self.assertEqual(told(copy), ahead)
            self.assertEqual(told(tour), ahead)

    def test_each_goes_its_own_way(self):
        for owns in shapes().values():
            if len(owns) < 60:
                newest = len(owns)
                tour = grown(Tour(), owns)
                ahead = told(tour)
                copy = tour.copied()
                grown(copy, [0, newest, newest + 1])
                self.assertEqual(told(tour), ahead)
                behind = told(copy)
                grown(tour, [newest, 0])
                self.assertEqual(told(copy), behind)
                self.assertEqual(behind, told(grown(Tour(), list(owns) + [0, newest, newest + 1])))
                self.assertEqual(told(tour), told(grown(Tour(), list(owns) + [newest, 0])))

    def test_a_copy_grows_as_its_tour_does_till_64_makes_are_there(self):
        tour = grown(Tour(), range(20))
        copy = tour.copied()
        grown(copy, range(20, 63))
        self.assertEqual(told(copy), told(grown(Tour(), range(63))))
        need_too_many(self, 65, copy.grow, 63)
        self.assertEqual(tour.many(), 21)

    def test_a_copy_of_a_copy_and_what_it_refuses(self):
        tour = grown(Tour(), [0, 1, 0])
        copy = tour.copied().copied()
        need_refusal(self, NoMake, {"found": 4}, copy.grow, 4)
        self.assertEqual(copy.grow(3), 4)
        self.assertEqual(copy.beneath(3), [4])
        need_refusal(self, NoMake, {"found": 4}, tour.beneath, 4)


class InterfaceTest(unittest.TestCase):
    def test_what_the_interface_lists_is_defined_in_the_class_and_the_file(self):
        self.assertEqual(Tour.__module__, "makeskept.tour")
        for name in "many grow marks_of order coming leaving within beneath copied".split():
            self.assertIn(name, vars(Tour))


if __name__ == "__main__":
    unittest.main()
