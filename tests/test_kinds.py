"""[10], [11] Kinds of values, and worths as texts."""

import copy
import unittest

from makeskept import kinds
from makeskept.errors import NoNumber, NoWorth
from makeskept.kinds import is_changes, is_whole, is_worth, is_worths, read_worth, worth_text
from tests.things import GREAT, need_refusal, no_numbers

MOST = 10 ** 30 - 1
WORTHS = [0, 1, -1, 7, -10, 10 ** 15, 10 ** 29, -(10 ** 29), MOST - 1, MOST, 1 - MOST, -MOST]
BEYOND = [MOST + 1, -MOST - 1, 10 ** 31 - 1, 1 - 10 ** 31, GREAT, -GREAT]


def no_worths():
    return BEYOND + no_numbers()


class InterfaceTest(unittest.TestCase):
    def test_each_function_is_defined_in_the_file(self):
        for name in ("is_whole", "is_worth", "is_worths", "is_changes", "worth_text", "read_worth"):
            self.assertEqual(getattr(kinds, name).__module__, "makeskept.kinds")


class IsWholeTest(unittest.TestCase):
    def test_the_bounds_are_counted(self):
        for low, high in ((0, 0), (0, 1), (0, 63), (-5, 5), (-9, -3), (10 ** 38, GREAT), (-GREAT, GREAT)):
            for number in (low, high, (low + high) // 2):
                self.assertIs(is_whole(number, low, high), True, (number, low, high))

    def test_just_beyond_the_bounds(self):
        for low, high in ((0, 0), (0, 1), (0, 63), (-5, 5), (-9, -3), (10 ** 38, 2 * 10 ** 38)):
            for number in (low - 1, high + 1, low - 100, high + 100, -GREAT, GREAT):
                self.assertIs(is_whole(number, low, high), False, (number, low, high))

    def test_every_number_of_a_stretch(self):
        for number in range(-20, 21):
            self.assertIs(is_whole(number, -7, 12), -7 <= number <= 12)

    def test_no_number_stands_between_bounds_the_wrong_way_round(self):
        for number in (0, 1, 2, 3):
            self.assertIs(is_whole(number, 2, 1), False)

    def test_other_things(self):
        for thing in no_numbers():
            for low, high in ((0, 1), (0, 0), (1, 1), (-GREAT, GREAT)):
                self.assertIs(is_whole(thing, low, high), False, (thing, low, high))


class IsWorthTest(unittest.TestCase):
    def test_worths(self):
        for worth in WORTHS:
            self.assertIs(is_worth(worth), True, worth)

    def test_each_number_of_figures(self):
        for figures in range(1, 41):
            for number in (10 ** figures - 1, 10 ** (figures - 1)):
                self.assertIs(is_worth(number), figures <= 30, number)
                self.assertIs(is_worth(-number), figures <= 30, -number)

    def test_other_things(self):
        for thing in no_worths():
            self.assertIs(is_worth(thing), False, thing)


class IsWorthsTest(unittest.TestCase):
    def test_each_number_of_worths(self):
        for many in range(0, 40):
            worths = [(MOST, -MOST, 0)[at % 3] for at in range(many)]
            self.assertIs(is_worths(worths), 1 <= many <= 16, many)
            self.assertIs(is_worths(tuple(worths)), 1 <= many <= 16, many)

    def test_each_worth_alone_and_among_others(self):
        for worth in WORTHS:
            for worths in ([worth], (worth,), [0, worth, 1], (0, worth, worth)):
                self.assertIs(is_worths(worths), True, worths)

    def test_one_thing_otherwise_at_any_place(self):
        for thing in no_worths():
            for many in (1, 2, 7, 16):
                for place in range(many):
                    worths = [5] * many
                    worths[place] = thing
                    self.assertIs(is_worths(worths), False, worths)
                    self.assertIs(is_worths(tuple(worths)), False, worths)

    def test_things_that_are_no_lists_and_no_tuples(self):
        for thing in [1, 0, -1, GREAT, "123", {1: 2, 3: 4}] + no_numbers():
            if not isinstance(thing, (list, tuple)):
                self.assertIs(is_worths(thing), False, thing)

    def test_lists_within_lists(self):
        for thing in ([[1]], [(1,)], ([1],), ((1, 2),), [1, [2]]):
            self.assertIs(is_worths(thing), False, thing)

    def test_what_is_handed_in_stays_as_it_was(self):
        for thing in ([1, 2, 3], [1, True], [3, [4]], [], [0] * 17):
            kept = copy.deepcopy(thing)
            is_worths(thing)
            self.assertEqual(thing, kept)


class IsChangesTest(unittest.TestCase):
    def check(self, changes, size, truth):
        self.assertIs(is_changes(changes, size), truth, (changes, size))
        self.assertIs(is_changes(tuple(changes), size), truth, (changes, size))

    def test_each_number_of_changes(self):
        for size in range(1, 17):
            for many in range(0, 45):
                self.check([(at % size, at) for at in range(many)], size, many <= 20)

    def test_each_size_and_place(self):
        for size in range(1, 17):
            for place in range(-3, 20):
                self.check([(place, 5)], size, 0 <= place < size)
                self.check([(0, 1), (place, 5)], size, 0 <= place < size)

    def test_any_order_and_a_place_several_times(self):
        self.check([(3, 1), (1, 1), (2, 1), (0, 1)], 4, True)
        self.check([(1, 5)] * 20, 2, True)
        self.check([(1, 5), (0, 2), (1, 7), (1, 5), (0, -2)], 2, True)

    def test_each_worth(self):
        for worth in WORTHS:
            self.check([(0, worth)], 1, True)
            self.check([(15, 0), (4, worth)], 16, True)

    def test_what_is_no_worth(self):
        for thing in no_worths():
            self.check([(0, thing)], 1, False)
            self.check([(0, 1), (2, thing)], 3, False)

    def test_what_is_no_place(self):
        for thing in [-1, 16, 17, GREAT, -GREAT] + no_numbers():
            self.check([(thing, 5)], 16, False)
            self.check([(0, 1), (thing, 5)], 16, False)

    def test_one_change_otherwise_at_any_place(self):
        others = [[1, 1], [], (), (1,), (1, 1, 1), ((1, 1),), [(1, 1)], 1, None, True, "11", "1 1", {}, {1: 1, 0: 0}]
        others += [(4, 1), (-1, 1), (1, MOST + 1), (True, 1), (1, False), (1, None), ("1", 1), ((1,), 1), (1, [1])]
        for other in others:
            for many in (1, 2, 20):
                for at in range(many):
                    changes = [(1, 1)] * many
                    changes[at] = other
                    self.check(changes, 4, False)

    def test_things_that_are_no_lists_and_no_tuples(self):
        for thing in [0, 1, -1, GREAT, "01", {(0, 1): 1}] + no_numbers():
            if not isinstance(thing, (list, tuple)):
                self.assertIs(is_changes(thing, 16), False, thing)

    def test_one_change_alone_is_no_list_of_changes(self):
        self.assertIs(is_changes((0, 1), 16), False)
        self.assertIs(is_changes([0, 1], 16), False)

    def test_what_is_handed_in_stays_as_it_was(self):
        for thing in ([(0, 1), (1, 2)], [(3, 1), (0, 2), (0, 1)], [[0, 1], (0, 1)], [(0, [1])], [(0, 0)] * 21):
            kept = copy.deepcopy(thing)
            is_changes(thing, 4)
            self.assertEqual(thing, kept)


WRITTEN = [
    (0, "0"), (1, "1"), (-1, "-1"), (9, "9"), (10, "10"), (-10, "-10"), (305, "305"), (-70, "-70"),
    (10 ** 29, "1" + "0" * 29), (-(10 ** 29), "-1" + "0" * 29), (MOST, "9" * 30), (-MOST, "-" + "9" * 30),
    (123456789012345678901234567890, "123456789012345678901234567890"),
]

NO_WORTH_TEXTS = [
    "", "-", "--", "+", " ", "\n", "-0", "+0", "00", "-00", "000", "01", "-01", "007", "0" * 30, "0" * 29 + "1",
    "+1", "+12", "--1", "1-", "12-3", "-+1", "- 1", "1 -", " 1", "1 ", " -1", "-1 ", "  1", "1  ", "1 2", "1\n", "\n1",
    "-1\n", "\n-1", "1\n2", "1 000", "1_000", "1,000", "1.0", "1.", ".1", "1e3", "0x1", "1a", "a1", "a", "x", "True",
    "None", "1/2", "1:", "(1)", "[1]", "'1'", "1" * 31, "9" * 31, "-" + "1" * 31, "-" + "9" * 31, "0" + "1" * 30,
    "-0" + "1" * 29, "1" * 30 + " ", " " + "1" * 29, "1" * 40000, "-" * 31, "1" + "-" * 29,
]


class WorthTextTest(unittest.TestCase):
    def test_written_plainly(self):
        for worth, text in WRITTEN:
            self.assertEqual(worth_text(worth), text)
            self.assertIs(worth_text(worth).__class__, str)

    def test_what_is_no_worth_is_refused(self):
        for thing in no_worths():
            need_refusal(self, NoWorth, {"found": thing}, worth_text, thing)


class ReadWorthTest(unittest.TestCase):
    def test_read(self):
        for worth, text in WRITTEN:
            self.assertEqual(read_worth(text), worth)
            self.assertIs(read_worth(text).__class__, int)

    def test_what_was_written_is_read_again(self):
        for worth in WORTHS + list(range(-120, 121)) + [3 ** power for power in range(62)]:
            self.assertEqual(read_worth(worth_text(worth)), worth)

    def test_each_number_of_figures(self):
        for many in range(1, 31):
            for text in ("1" * many, "-" + "8" * many, "9" * many, "-1" + "0" * (many - 1)):
                self.assertEqual(worth_text(read_worth(text)), text)

    def test_texts_that_are_no_plainly_written_worths(self):
        for text in NO_WORTH_TEXTS:
            need_refusal(self, NoNumber, {"found": text}, read_worth, text)

    def test_any_sign_among_figures(self):
        for code in range(ord(" "), ord("~") + 1):
            sign = chr(code)
            if sign not in "0123456789%":
                texts = [sign, "1" + sign, "1" + sign + "2"] + ([] if sign == "-" else [sign + "1", "-" + sign])
                for text in texts:
                    need_refusal(self, NoNumber, {"found": text}, read_worth, text)

    def test_things_that_are_no_texts(self):
        for thing in [0, 1, -1, MOST, GREAT, ["1"], ("1",), {"1": 1}] + no_numbers():
            if not isinstance(thing, str):
                need_refusal(self, NoNumber, {"found": thing}, read_worth, thing)


if __name__ == "__main__":
    unittest.main()
