"""[30], [31], [32], [33] Marks in order."""

import unittest

from makeskept.errors import Alone, NoMark
from makeskept.order import Order
from tests.draws import Draws
from tests.things import GREAT, need_refusal, need_too_many, no_marks


class Ladder:
    """The marks of an order, told again by the words of the document: pairs [mark, label] in their order."""

    def __init__(self):
        self.rungs = [[0, 0]]
        self.given = 1
        self.times = 0

    def marks(self):
        return [mark for mark, _ in self.rungs]

    def room_behind(self, mark):
        labels = [label for _, label in self.rungs] + [1024]
        at = self.marks().index(mark)
        return labels[at], labels[at + 1]

    def behind(self, mark):
        low, high = self.room_behind(mark)
        if high - low < 2:
            self.times += 1
            share = 1024 // len(self.rungs)
            self.rungs = [[known, share * at] for at, known in enumerate(self.marks())]
            low, high = self.room_behind(mark)
        self.rungs.insert(self.marks().index(mark) + 1, [self.given, (low + high) // 2])
        self.given += 1
        return self.given - 1

    def drop(self, mark):
        self.rungs = [rung for rung in self.rungs if rung[0] != mark]


def told(order):
    """All that an order tells, but for which of two marks stands ahead."""
    return order.many(), order.marks(), [order.label(mark) for mark in order.marks()], order.anew()


def grown(order, marks):
    """The order, with a mark put behind each of these."""
    for mark in marks:
        order.behind(mark)
    return order


class OrderCase(unittest.TestCase):
    def check(self, order, ladder):
        labels = [label for _, label in ladder.rungs]
        self.assertEqual(told(order), (len(labels), ladder.marks(), labels, ladder.times))

    def both_behind(self, order, ladder, mark):
        self.assertEqual(order.behind(mark), ladder.behind(mark))
        self.check(order, ladder)


class PuttingTest(OrderCase):
    """[30] How marks are put."""

    def test_at_first_mark_0_stands_alone(self):
        self.assertEqual(told(Order()), (1, [0], [0], 0))

    def test_behind_the_first_one(self):
        order = Order()
        for number in range(1, 200):
            self.assertEqual(order.behind(0), number)
            self.assertEqual(order.marks(), [0] + list(range(number, 0, -1)))
            self.assertEqual(order.many(), number + 1)

    def test_behind_the_last_one_which_is_the_newest(self):
        order = Order()
        for number in range(1, 200):
            self.assertEqual(order.behind(number - 1), number)
            self.assertEqual(order.marks(), list(range(number + 1)))
            self.assertEqual(order.many(), number + 1)

    def test_behind_others_by_hand(self):
        order = Order()
        self.assertEqual([order.behind(mark) for mark in (0, 0, 1, 2, 2, 3)], [1, 2, 3, 4, 5, 6])
        self.assertEqual(order.marks(), [0, 2, 5, 4, 1, 3, 6])
        self.assertEqual(order.many(), 7)

    def test_the_newest_though_not_the_last_one(self):
        order = grown(Order(), [0, 0, 2, 3])
        self.assertEqual(order.marks(), [0, 2, 3, 4, 1])

    def test_what_is_no_mark_is_refused_and_changes_nothing(self):
        for marks in ([], [0], [0, 0, 1, 2, 0], [at // 2 for at in range(60)]):
            order = grown(Order(), marks)
            ahead = told(order)
            for thing in no_marks(order.marks()):
                need_refusal(self, NoMark, {"found": thing}, order.behind, thing)
            self.assertEqual(told(order), ahead)
            self.assertEqual(order.behind(0), len(marks) + 1)

    def test_at_most_200_marks_stand(self):
        order = grown(Order(), [0] * 151 + [7] * 48)
        ahead = told(order)
        self.assertEqual(order.many(), 200)
        # Where there is no room for a label, too, nothing is labelled anew.
        self.assertTrue([low for low, high in zip(ahead[2], ahead[2][1:] + [1024]) if high - low < 2])
        for mark in order.marks():
            need_too_many(self, 201, order.behind, mark)
        self.assertEqual(told(order), ahead)

    def test_no_mark_goes_ahead_of_too_many(self):
        order = grown(Order(), [0] * 199)
        for thing in no_marks(order.marks()):
            need_refusal(self, NoMark, {"found": thing}, order.behind, thing)
        need_too_many(self, 201, order.behind, 199)

    def test_where_one_of_200_was_dropped_there_is_room_for_another_one(self):
        order = grown(Order(), [0] * 199)
        need_too_many(self, 201, order.behind, 0)
        order.drop(50)
        self.assertEqual(order.behind(51), 200)
        self.assertEqual(order.many(), 200)
        need_too_many(self, 201, order.behind, 200)
        need_refusal(self, NoMark, {"found": 50}, order.behind, 50)
        need_refusal(self, NoMark, {"found": 201}, order.behind, 201)

    def test_two_orders_have_nothing_in_common(self):
        one = Order()
        other = Order()
        grown(one, [0, 0, 1])
        self.assertEqual(told(other), (1, [0], [0], 0))
        self.assertEqual(other.behind(0), 1)
        self.assertEqual(one.many(), 4)

    def test_kinds_of_what_is_told(self):
        order = grown(Order(), [0, 1])
        for number in (order.behind(0), order.many(), order.anew(), order.label(0), order.label(2)):
            self.assertIs(number.__class__, int)
        self.assertIs(order.marks().__class__, list)


class DroppingTest(OrderCase):
    """[30] How marks are dropped."""

    def test_none_is_told(self):
        order = grown(Order(), [0, 1])
        self.assertIsNone(order.drop(1))
        self.assertEqual(order.marks(), [0, 2])
        self.assertEqual(order.many(), 2)

    def test_the_first_and_the_last_one(self):
        order = grown(Order(), [0, 1, 2])
        order.drop(0)
        self.assertEqual(order.marks(), [1, 2, 3])
        order.drop(3)
        self.assertEqual(order.marks(), [1, 2])
        self.assertEqual(order.behind(2), 4)
        self.assertEqual(order.behind(1), 5)
        self.assertEqual(order.marks(), [1, 5, 2, 4])

    def test_no_number_is_given_twice(self):
        order = Order()
        for number in range(1, 700):
            self.assertEqual(order.behind(number - 1), number)
            order.drop(number - 1)
            self.assertEqual(order.marks(), [number])
        self.assertEqual(order.behind(699), 700)
        order.drop(700)
        self.assertEqual(order.behind(699), 701)

    def test_a_dropped_mark_is_no_mark(self):
        order = grown(Order(), [0, 1, 2, 3, 4])
        for mark in (2, 0, 5):
            order.drop(mark)
            for ask in (order.behind, order.drop, order.label):
                need_refusal(self, NoMark, {"found": mark}, ask, mark)
            need_refusal(self, NoMark, {"found": mark}, order.ahead, mark, 3)
            need_refusal(self, NoMark, {"found": mark}, order.ahead, 3, mark)
            need_refusal(self, NoMark, {"found": mark}, order.ahead, mark, mark)

    def test_what_is_no_mark_is_refused_and_changes_nothing(self):
        order = grown(Order(), [0, 0, 1, 2, 0])
        order.drop(2)
        ahead = told(order)
        for thing in no_marks(order.marks()):
            need_refusal(self, NoMark, {"found": thing}, order.drop, thing)
        self.assertEqual(told(order), ahead)

    def test_the_last_one_that_stands_is_refused(self):
        order = Order()
        need_refusal(self, Alone, {"found": 0}, order.drop, 0)
        grown(order, [0, 0, 1])
        for mark in (0, 3, 1):
            order.drop(mark)
        ahead = told(order)
        need_refusal(self, Alone, {"found": 2}, order.drop, 2)
        self.assertEqual(told(order), ahead)
        self.assertEqual(order.marks(), [2])

    def test_no_mark_goes_ahead_of_alone(self):
        order = Order()
        for thing in no_marks([0]):
            need_refusal(self, NoMark, {"found": thing}, order.drop, thing)
        order.behind(0)
        order.drop(0)
        for thing in no_marks([1]):
            need_refusal(self, NoMark, {"found": thing}, order.drop, thing)
        need_refusal(self, Alone, {"found": 1}, order.drop, 1)


class TellingTest(OrderCase):
    """[31] What an order tells."""

    def test_which_of_two_marks_stands_ahead(self):
        for marks in ([], [0], [0, 0, 1, 2, 2, 3], [at // 2 for at in range(40)], [0] * 30, list(range(30))):
            order = grown(Order(), marks)
            stand = order.marks()
            for at, one in enumerate(stand):
                for behind, other in enumerate(stand):
                    self.assertIs(order.ahead(one, other), at < behind, (one, other))

    def test_which_stands_ahead_behind_drops_and_anew_labellings(self):
        order = grown(Order(), [0] * 25)
        for mark in (0, 25, 13, 1, 2):
            order.drop(mark)
        grown(order, [24] * 20)
        stand = order.marks()
        for at, one in enumerate(stand):
            for behind, other in enumerate(stand):
                self.assertIs(order.ahead(one, other), at < behind)

    def test_a_list_that_is_told_and_changed_is_told_again(self):
        order = grown(Order(), [0, 0, 1])
        marks = order.marks()
        marks.reverse()
        marks.append(77)
        del marks[0]
        self.assertEqual(order.marks(), [0, 2, 1, 3])
        self.assertIsNot(order.marks(), order.marks())
        self.assertEqual(order.behind(3), 4)
        self.assertEqual(order.marks(), [0, 2, 1, 3, 4])

    def test_a_list_that_was_told_stays_as_it_was(self):
        order = grown(Order(), [0])
        marks = order.marks()
        order.behind(0)
        order.drop(1)
        self.assertEqual(marks, [0, 1])

    def test_what_is_no_mark_is_refused_the_first_one_first(self):
        order = grown(Order(), [0, 0, 1, 2, 0])
        order.drop(4)
        ahead = told(order)
        for thing in no_marks(order.marks()):
            need_refusal(self, NoMark, {"found": thing}, order.label, thing)
            need_refusal(self, NoMark, {"found": thing}, order.ahead, thing, thing)
            for mark in order.marks():
                need_refusal(self, NoMark, {"found": thing}, order.ahead, thing, mark)
                need_refusal(self, NoMark, {"found": thing}, order.ahead, mark, thing)
            for other in no_marks(order.marks()):
                need_refusal(self, NoMark, {"found": thing}, order.ahead, thing, other)
        self.assertEqual(told(order), ahead)


class LabelsTest(OrderCase):
    """[32] Labels, and how all are labelled anew."""

    def test_behind_the_first_one_by_hand(self):
        order = Order()
        labels = [order.label(order.behind(0)) for _ in range(10)]
        self.assertEqual(labels, [512, 256, 128, 64, 32, 16, 8, 4, 2, 1])
        self.assertEqual(order.anew(), 0)
        self.assertEqual(order.label(order.behind(0)), 46)
        self.assertEqual(order.anew(), 1)
        self.assertEqual([order.label(mark) for mark in order.marks()], [0, 46] + [93 * at for at in range(1, 11)])

    def test_behind_the_last_one_by_hand(self):
        order = Order()
        labels = [order.label(order.behind(mark)) for mark in range(10)]
        self.assertEqual(labels, [512, 768, 896, 960, 992, 1008, 1016, 1020, 1022, 1023])
        self.assertEqual(order.anew(), 0)
        self.assertEqual(order.label(order.behind(10)), 977)
        self.assertEqual(order.anew(), 1)
        self.assertEqual([order.label(mark) for mark in range(12)], [93 * at for at in range(11)] + [977])

    def test_in_the_middle_by_hand(self):
        order = grown(Order(), [0, 1])
        labels = [order.label(order.behind(mark)) for mark in (1, 3, 4, 5, 6, 7, 8)]
        self.assertEqual(labels, [640, 704, 736, 752, 760, 764, 766])
        self.assertEqual(order.label(order.behind(9)), 767)
        self.assertEqual(order.anew(), 0)
        self.assertEqual(order.label(order.behind(10)), (9 * 93 + 10 * 93) // 2)
        self.assertEqual(order.anew(), 1)

    def test_an_odd_sum_is_halved_downwards(self):
        order = grown(Order(), [0] * 11)
        self.assertEqual([order.label(mark) for mark in order.marks()][:3], [0, 46, 93])
        self.assertEqual(order.label(order.behind(11)), 69)
        self.assertEqual(order.label(order.behind(0)), 23)
        self.assertEqual(order.label(order.behind(0)), 11)

    def test_room_for_just_one_label_is_used(self):
        order = grown(Order(), [0] * 9)
        self.assertEqual(order.label(9), 2)
        self.assertEqual(order.label(order.behind(0)), 1)
        self.assertEqual(order.anew(), 0)
        self.assertEqual(order.label(order.behind(9)), 3)
        self.assertEqual(order.anew(), 0)
        grown(order, [11])
        self.assertEqual(order.anew(), 1)

    def test_each_mark_alone_is_labelled_anew_too(self):
        order = grown(Order(), range(10))
        for mark in range(10):
            order.drop(mark)
        self.assertEqual(told(order), (1, [10], [1023], 0))
        self.assertEqual(order.behind(10), 11)
        self.assertEqual(told(order), (2, [10, 11], [0, 512], 1))

    def test_a_drop_changes_no_label(self):
        order = grown(Order(), [0, 0, 1, 2, 0, 5, 1])
        labels = {mark: order.label(mark) for mark in order.marks()}
        for mark in (0, 3, 7, 2):
            order.drop(mark)
            del labels[mark]
            self.assertEqual({mark: order.label(mark) for mark in order.marks()}, labels)
            self.assertEqual(order.anew(), 0)

    def test_the_room_of_a_dropped_mark_is_used(self):
        order = grown(Order(), [0] * 10)
        order.drop(10)
        self.assertEqual(order.label(order.behind(0)), 1)
        order.drop(11)
        order.drop(9)
        self.assertEqual(order.label(order.behind(0)), 2)
        self.assertEqual(order.anew(), 0)

    def test_behind_the_first_one_till_200_stand(self):
        order = Order()
        ladder = Ladder()
        for _ in range(199):
            self.both_behind(order, ladder, 0)
        self.assertGreater(order.anew(), 20)

    def test_behind_the_newest_one_till_200_stand(self):
        order = Order()
        ladder = Ladder()
        for mark in range(199):
            self.both_behind(order, ladder, mark)
        self.assertGreater(order.anew(), 10)

    def test_in_the_middle_till_200_stand(self):
        order = Order()
        ladder = Ladder()
        for at in range(199):
            marks = ladder.marks()
            self.both_behind(order, ladder, marks[len(marks) // 2 - at % 2 * len(marks) // 7])

    def test_again_and_again_where_199_stand(self):
        order = Order()
        ladder = Ladder()
        for _ in range(198):
            self.both_behind(order, ladder, 0)
        for at in range(30):
            self.both_behind(order, ladder, 0)
            mark = ladder.marks()[1 + at * 5]
            self.assertIsNone(order.drop(mark))
            ladder.drop(mark)
            self.check(order, ladder)

    def test_long_scripts(self):
        for beginning in range(12):
            draws = Draws(beginning)
            order = Order()
            ladder = Ladder()
            favourite = 0
            for _ in range(250):
                marks = ladder.marks()
                if len(marks) > 1 and draws.below(4 + beginning) == 0:
                    mark = draws.among(marks)
                    self.assertIsNone(order.drop(mark))
                    ladder.drop(mark)
                    self.check(order, ladder)
                elif len(marks) < 200:
                    if favourite not in marks or draws.below(20) == 0:
                        favourite = draws.among(marks)
                    self.both_behind(order, ladder, favourite if draws.below(3) else draws.among(marks))
            self.assertTrue(all(0 <= label < 1024 for label in told(order)[2]))


class CopyingTest(OrderCase):
    """[33] Copies of an order."""

    def test_a_copy_tells_the_same(self):
        for marks in ([], [0], [0] * 30, list(range(40)), [at // 2 for at in range(199)]):
            order = grown(Order(), marks)
            ahead = told(order)
            copy = order.copied()
            self.assertIs(copy.__class__, Order)
            self.assertIsNot(copy, order)
            self.assertEqual(told(copy), ahead)
            self.assertEqual(told(order), ahead)

    def test_a_copy_gives_the_same_next_number_behind_drops(self):
        order = grown(Order(), [0, 1, 2, 3])
        order.drop(4)
        order.drop(0)
        copy = order.copied()
        self.assertEqual(copy.behind(1), 5)
        self.assertEqual(order.behind(3), 5)
        self.assertEqual(copy.marks(), [1, 5, 2, 3])
        self.assertEqual(order.marks(), [1, 2, 3, 5])

    def test_a_copy_has_the_same_labels_ahead_of_and_behind_anew_labellings(self):
        for many in (9, 10, 11, 12, 25):
            order = grown(Order(), [0] * many)
            copy = order.copied()
            again = grown(Order(), [0] * many)
            for _ in range(40):
                self.assertEqual(copy.behind(0), again.behind(0))
                self.assertEqual(told(copy), told(again))
            self.assertEqual(told(order), told(grown(Order(), [0] * many)))

    def test_each_goes_its_own_way(self):
        order = grown(Order(), [0] * 10)
        ahead = told(order)
        copy = order.copied()
        grown(copy, [0, 5])
        copy.drop(10)
        self.assertEqual(told(order), ahead)
        behind = told(copy)
        self.assertEqual(behind[3], 1)
        order.drop(9)
        order.drop(0)
        grown(order, [10, 10])
        self.assertEqual(told(copy), behind)
        need_refusal(self, NoMark, {"found": 0}, order.label, 0)
        self.assertEqual(copy.label(0), 0)
        need_refusal(self, NoMark, {"found": 10}, copy.label, 10)

    def test_a_copy_of_a_copy(self):
        order = grown(Order(), [0] * 12)
        copy = order.copied().copied()
        self.assertEqual(told(copy), told(order))
        copy.drop(0)
        self.assertEqual(copy.behind(12), 13)
        self.assertEqual(order.many(), 13)

    def test_a_copy_refuses_as_its_order_does(self):
        order = grown(Order(), [0] * 199)
        order.drop(100)
        copy = order.copied()
        for thing in no_marks(order.marks()):
            for ask in (copy.behind, copy.drop, copy.label):
                need_refusal(self, NoMark, {"found": thing}, ask, thing)
        self.assertEqual(copy.behind(0), 200)
        need_too_many(self, 201, copy.behind, 0)
        self.assertEqual(order.behind(199), 200)
        alone = Order().copied()
        need_refusal(self, Alone, {"found": 0}, alone.drop, 0)
        need_refusal(self, NoMark, {"found": GREAT}, alone.drop, GREAT)


class InterfaceTest(unittest.TestCase):
    def test_what_the_interface_lists_is_defined_in_the_class_and_the_file(self):
        self.assertEqual(Order.__module__, "makeskept.order")
        for name in "behind drop many marks ahead label anew copied".split():
            self.assertIn(name, vars(Order))


if __name__ == "__main__":
    unittest.main()
