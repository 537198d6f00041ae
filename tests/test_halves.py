"""[60] to [64] A store of parts, and rows laid in it."""

import unittest

from makeskept import halves
from makeskept.errors import NoPart, NoPlace, NoRow, NoStretch, NoWorth
from makeskept.halves import Parts, built, put_down, way_down
from tests.draws import Draws
from tests.things import GREAT, need_refusal, no_numbers, no_places, no_rows, no_worths
from tests.way_books import stretch_of

MOST = 10 ** 30 - 1


def no_parts(numbers, given):
    """Things that are no numbers of kept parts, where these are kept and so many were given."""
    freed = [number for number in range(given) if number not in numbers]
    return freed + [given, given + 1, -1, -given - 1, GREAT, -GREAT] + no_numbers()


def no_fork_stretches():
    """Pairs that no fork can have as its stretch."""
    pairs = [(0, 0), (0, 1), (1, 1), (5, 6), (15, 16), (1, 0), (2, 1), (16, 16), (16, 0), (3, 2), (7, 5), (16, 18)]
    pairs += [(-1, 1), (-1, 0), (-2, 0), (-1, 16), (0, 17), (15, 17), (14, 17), (16, 17), (17, 19), (0, -2)]
    pairs += [(GREAT, GREAT + 2), (-GREAT, 4), (0, GREAT), (GREAT, 0), (-4, -2)]
    for thing in no_numbers():
        pairs += [(thing, 4), (0, thing), (thing, thing), (thing, -1), (17, thing)]
    return pairs


class Shelf:
    """A store told again: who points to a part is looked for among all kept parts."""

    def __init__(self):
        self.parts = {}
        self.held = {}
        self.given = 0

    def made(self, part):
        self.parts[self.given] = part
        self.held[self.given] = 0
        self.given += 1
        return self.given - 1

    def pointers(self, number):
        return self.held[number] + len([part for part in self.parts.values() if number in part[3:]])

    def release(self, number):
        self.held[number] -= 1
        freed = []
        look = [number]
        while look:
            number = look.pop(0)
            if number in self.parts and self.pointers(number) == 0:
                look += self.parts.pop(number)[3:]
                freed.append(number)
        return sorted(freed)

    def with_stretch(self, low, high):
        return [number for number, part in self.parts.items() if stretch_of(part) == (low, high)]


def told(parts):
    """All that a store tells, but for the next number."""
    numbers = parts.numbers()
    return parts.many(), numbers, [(parts.part(number), parts.pointers(number)) for number in numbers]


def shelf_told(shelf):
    numbers = sorted(shelf.parts)
    return len(numbers), numbers, [(shelf.parts[number], shelf.pointers(number)) for number in numbers]


def row_of(parts, root):
    """The worths of a part, from its leaves."""
    part = parts.part(root)
    if part[0] == "leaf":
        return [part[2]]
    return row_of(parts, part[3]) + row_of(parts, part[4])


def row_told(worths, first=0):
    """The parts of a row that is laid, by numbers from the first one on."""
    laid = []

    def lay(low, high):
        if high == low + 1:
            laid.append(("leaf", low, worths[low]))
        else:
            middle = (low + high) // 2
            halves_laid = (lay(low, middle), lay(middle, high))
            laid.append(("fork", low, high) + halves_laid)
        return first + len(laid) - 1

    lay(0, len(worths))
    return laid


class PartsCase(unittest.TestCase):
    def unchanged(self, parts, ahead):
        self.assertEqual(told(parts), ahead)


class MakingPartsTest(PartsCase):
    """[60], [61] Leaves and forks."""

    def test_at_first_there_is_none(self):
        parts = Parts()
        self.assertEqual(told(parts), (0, [], []))
        for thing in no_parts([], 0) + [0]:
            need_refusal(self, NoPart, {"found": thing}, parts.part, thing)

    def test_leaves_of_each_place(self):
        parts = Parts()
        for place in range(16):
            self.assertEqual(parts.leaf(place, 10 - place), place)
            self.assertEqual(parts.part(place), ("leaf", place, 10 - place))
            self.assertEqual(parts.numbers(), list(range(place + 1)))
            self.assertEqual(parts.many(), place + 1)
            self.assertEqual(parts.pointers(place), 0)
        self.assertEqual(parts.leaf(3, MOST), 16)
        self.assertEqual(parts.leaf(3, -MOST), 17)
        self.assertEqual([parts.part(16), parts.part(17)], [("leaf", 3, MOST), ("leaf", 3, -MOST)])

    def test_leaves_refuse_in_their_order(self):
        parts = Parts()
        parts.leaf(0, 0)
        for place in no_places(16):
            for worth in [0, None, MOST + 1]:
                need_refusal(self, NoPlace, {"found": place}, parts.leaf, place, worth)
        for worth in no_worths():
            for place in (0, 15):
                need_refusal(self, NoWorth, {"found": worth}, parts.leaf, place, worth)
        self.unchanged(parts, (1, [0], [(("leaf", 0, 0), 0)]))
        self.assertEqual(parts.leaf(1, 1), 1)

    def test_forks_of_every_stretch(self):
        for low in range(15):
            for high in range(low + 2, 17):
                parts = Parts()
                self.grown(parts, low, high)
                numbers = {stretch_of(parts.part(number)): number for number in parts.numbers()}
                middle = (low + high) // 2
                fork = ("fork", low, high, numbers[(low, middle)], numbers[(middle, high)])
                self.assertEqual(parts.part(numbers[(low, high)]), fork)
                self.assertEqual(numbers[(low, high)], 2 * (high - low) - 2)

    def grown(self, parts, low, high):
        """A part of the stretch, with all that it needs."""
        if high == low + 1:
            return parts.leaf(low, low)
        middle = (low + high) // 2
        left = self.grown(parts, low, middle)
        right = self.grown(parts, middle, high)
        return parts.fork(low, high, left, right)

    def test_a_fork_by_hand(self):
        parts = Parts()
        self.assertEqual([parts.leaf(3, 7), parts.leaf(4, 8), parts.leaf(5, 9)], [0, 1, 2])
        self.assertEqual(parts.fork(4, 6, 1, 2), 3)
        self.assertEqual(parts.fork(3, 6, 0, 3), 4)
        self.assertEqual(parts.fork(3, 5, 0, 1), 5)
        self.assertEqual(parts.part(4), ("fork", 3, 6, 0, 3))
        self.assertEqual([parts.pointers(number) for number in range(6)], [2, 2, 1, 1, 0, 0])
        self.assertEqual(parts.numbers(), [0, 1, 2, 3, 4, 5])
        need_refusal(self, NoPart, {"found": 5}, parts.fork, 3, 6, 5, 2)

    def test_forks_refuse_stretches_ahead_of_parts(self):
        parts = Parts()
        for place in range(16):
            parts.leaf(place, 0)
        ahead = told(parts)
        for low, high in no_fork_stretches():
            need_refusal(self, NoStretch, {"low": low, "high": high}, parts.fork, low, high, 0, 1)
            need_refusal(self, NoStretch, {"low": low, "high": high}, parts.fork, low, high, None, -1)
        self.unchanged(parts, ahead)

    def test_forks_refuse_what_is_no_part_the_left_one_first(self):
        parts = Parts()
        root = built(parts, list(range(4)))
        parts.hold(root)
        gone = put_down(parts, root, 0, 9)
        parts.hold(gone)
        freed = parts.release(gone)
        self.assertEqual(freed, [7, 8, 9])
        ahead = told(parts)
        # The left half of 0 to 4 is part 2, the right one part 5.
        for thing in no_parts(parts.numbers(), 10) + [0, 1, 3, 4, 5, 6]:
            need_refusal(self, NoPart, {"found": thing}, parts.fork, 0, 4, thing, 5)
            need_refusal(self, NoPart, {"found": thing}, parts.fork, 0, 4, thing, None)
        for thing in no_parts(parts.numbers(), 10) + [0, 1, 2, 3, 4, 6]:
            need_refusal(self, NoPart, {"found": thing}, parts.fork, 0, 4, 2, thing)
        for low, high in ((0, 3), (1, 4), (1, 5), (2, 4)):
            need_refusal(self, NoPart, {"found": 2}, parts.fork, low, high, 2, 5)
        need_refusal(self, NoPart, {"found": 5}, parts.fork, 0, 5, 2, 5)
        need_refusal(self, NoPart, {"found": 5}, parts.fork, 0, 4, 5, 2)
        self.unchanged(parts, ahead)
        self.assertEqual(parts.fork(0, 4, 2, 5), 10)

    def test_what_is_told_of_numbers_is_refused(self):
        parts = Parts()
        root = built(parts, [1, 2, 3])
        parts.hold(root)
        other = put_down(parts, root, 2, 4)
        parts.hold(other)
        self.assertEqual(parts.release(root), [2, 3, 4])
        for thing in no_parts(parts.numbers(), 8):
            for ask in (parts.part, parts.hold, parts.release, parts.pointers):
                need_refusal(self, NoPart, {"found": thing}, ask, thing)

    def test_numbers_are_a_new_list_each_time(self):
        parts = Parts()
        built(parts, [1, 2])
        numbers = parts.numbers()
        self.assertIs(numbers.__class__, list)
        numbers[0] = 77
        numbers.append(78)
        self.assertEqual(parts.numbers(), [0, 1, 2])
        kept = parts.numbers()
        parts.leaf(0, 0)
        self.assertEqual(kept, [0, 1, 2])

    def test_kinds_of_what_is_told(self):
        parts = Parts()
        root = built(parts, [1, 2])
        for number in (parts.leaf(0, 0), parts.fork(0, 2, 0, 1), parts.many(), parts.pointers(root), root):
            self.assertIs(number.__class__, int)
        for number in (0, 2):
            self.assertIs(parts.part(number).__class__, tuple)

    def test_two_stores_have_nothing_in_common(self):
        one = Parts()
        other = Parts()
        one.hold(built(one, [1, 2, 3]))
        self.assertEqual(told(other), (0, [], []))
        self.assertEqual(other.leaf(0, 0), 0)
        self.assertEqual(one.many(), 5)


class HoldingTest(PartsCase):
    """[62] What points to parts, and what is freed."""

    def test_a_part_to_which_nothing_ever_pointed_stays(self):
        parts = Parts()
        built(parts, [1, 2, 3])
        parts.leaf(0, 9)
        parts.hold(2)
        self.assertEqual(parts.release(2), [])
        self.assertEqual(parts.numbers(), [0, 1, 2, 3, 4, 5])
        self.assertEqual([parts.pointers(number) for number in range(6)], [1, 1, 1, 1, 0, 0])

    def test_a_held_root_that_is_released_frees_all_its_parts(self):
        for size in range(1, 17):
            parts = Parts()
            root = built(parts, list(range(size)))
            self.assertIsNone(parts.hold(root))
            self.assertEqual(parts.pointers(root), 1)
            self.assertEqual(parts.release(root), list(range(2 * size - 1)))
            self.assertEqual(told(parts), (0, [], []))
            self.assertEqual(parts.leaf(0, 0), 2 * size - 1)

    def test_held_several_times(self):
        parts = Parts()
        root = built(parts, [1, 2])
        for many in range(1, 6):
            parts.hold(root)
            self.assertEqual(parts.pointers(root), many)
        for many in range(4, 0, -1):
            self.assertEqual(parts.release(root), [])
            self.assertEqual(parts.pointers(root), many)
        self.assertEqual(parts.release(root), [0, 1, 2])
        need_refusal(self, NoPart, {"found": root}, parts.release, root)

    def test_a_release_of_what_is_not_held(self):
        parts = Parts()
        root = built(parts, [1, 2, 3])
        parts.hold(root)
        parts.hold(1)
        parts.release(1)
        ahead = told(parts)
        for number in range(4):
            need_refusal(self, NoPart, {"found": number}, parts.release, number)
        self.unchanged(parts, ahead)
        self.assertEqual(parts.release(root), [0, 1, 2, 3, 4])

    def test_a_half_that_is_held_stays(self):
        parts = Parts()
        root = built(parts, [1, 2, 3, 4])
        parts.hold(root)
        parts.hold(2)
        self.assertEqual(parts.release(root), [3, 4, 5, 6])
        self.assertEqual(parts.numbers(), [0, 1, 2])
        self.assertEqual([parts.pointers(number) for number in range(3)], [1, 1, 1])
        self.assertEqual(parts.release(2), [0, 1, 2])

    def test_a_half_of_two_forks_stays_till_both_are_gone(self):
        parts = Parts()
        one = built(parts, [1, 2, 3, 4])
        other = put_down(parts, one, 0, 9)
        self.assertEqual([parts.pointers(number) for number in range(10)], [1, 2, 1, 1, 1, 2, 0, 1, 1, 0])
        parts.hold(one)
        parts.hold(other)
        self.assertEqual(parts.release(one), [0, 2, 6])
        self.assertEqual(parts.pointers(5), 1)
        self.assertEqual(parts.release(other), [1, 3, 4, 5, 7, 8, 9])

    def test_a_fork_that_was_never_held_keeps_its_halves(self):
        parts = Parts()
        one = built(parts, [1, 2, 3, 4])
        parts.hold(one)
        parts.fork(0, 4, 2, 5)
        self.assertEqual(parts.release(one), [6])
        self.assertEqual(parts.numbers(), [0, 1, 2, 3, 4, 5, 7])

    def test_what_is_freed_is_a_rising_list(self):
        parts = Parts()
        leaves = [parts.leaf(3 - place, place) for place in range(4)]
        right = parts.fork(2, 4, leaves[1], leaves[0])
        left = parts.fork(0, 2, leaves[3], leaves[2])
        root = parts.fork(0, 4, left, right)
        parts.hold(root)
        freed = parts.release(root)
        self.assertIs(freed.__class__, list)
        self.assertEqual(freed, [0, 1, 2, 3, 4, 5, 6])

    def test_no_number_is_given_twice(self):
        parts = Parts()
        for at in range(20):
            number = parts.leaf(0, at)
            self.assertEqual(number, at)
            parts.hold(number)
            self.assertEqual(parts.release(number), [number])
        self.assertEqual(parts.many(), 0)
        self.assertEqual(built(parts, [1, 2]), 22)
        need_refusal(self, NoPart, {"found": 0}, parts.part, 0)

    def test_long_scripts(self):
        for beginning in range(25):
            draws = Draws(beginning)
            parts = Parts()
            shelf = Shelf()
            size = 2 + beginning % 5
            for _ in range(150):
                self.some_deed(draws, parts, shelf, size)
                self.assertEqual(told(parts), shelf_told(shelf))

    def some_deed(self, draws, parts, shelf, size):
        kind = draws.below(8)
        numbers = sorted(shelf.parts)
        if kind < 2 or not numbers:
            place, worth = draws.below(size), draws.below(9)
            self.assertEqual(parts.leaf(place, worth), shelf.made(("leaf", place, worth)))
        elif kind < 4:
            low = draws.below(size - 1)
            high = low + 2 + draws.below(size - low - 1)
            middle = (low + high) // 2
            left, right = shelf.with_stretch(low, middle), shelf.with_stretch(middle, high)
            if left and right:
                fork = (low, high, draws.among(left), draws.among(right))
                self.assertEqual(parts.fork(*fork), shelf.made(("fork",) + fork))
        elif kind < 6:
            number = draws.among(numbers)
            shelf.held[number] += 1
            self.assertIsNone(parts.hold(number))
        else:
            held = [number for number in numbers if shelf.held[number]]
            number = draws.among(numbers if draws.below(4) == 0 or not held else held)
            if shelf.held[number]:
                self.assertEqual(parts.release(number), shelf.release(number))
            else:
                need_refusal(self, NoPart, {"found": number}, parts.release, number)


class BuiltTest(PartsCase):
    """[63] Rows laid in a store."""

    def test_rows_of_each_size(self):
        for size in range(1, 17):
            worths = [(MOST, 0, -MOST, 5)[at % 4] + (at % 4 == 1) * at for at in range(size)]
            for handed in (list(worths), tuple(worths)):
                parts = Parts()
                root = built(parts, handed)
                self.assertEqual(root, 2 * size - 2)
                self.assertEqual(parts.many(), 2 * size - 1)
                self.assertEqual([parts.part(number) for number in parts.numbers()], row_told(worths))
                self.assertEqual(row_of(parts, root), worths)
                self.assertEqual([parts.pointers(number) for number in parts.numbers()], [1] * root + [0])
                self.assertEqual(list(handed), worths)

    def test_three_worths_by_hand(self):
        parts = Parts()
        self.assertEqual(built(parts, [7, 8, 9]), 4)
        laid = [("leaf", 0, 7), ("leaf", 1, 8), ("leaf", 2, 9), ("fork", 1, 3, 1, 2), ("fork", 0, 3, 0, 3)]
        self.assertEqual([parts.part(number) for number in range(5)], laid)

    def test_several_rows_in_one_store(self):
        parts = Parts()
        parts.leaf(9, 9)
        self.assertEqual(built(parts, [1, 2]), 3)
        self.assertEqual(built(parts, [1, 2, 3]), 8)
        self.assertEqual(built(parts, [4]), 9)
        laid = [("leaf", 9, 9)] + row_told([1, 2], 1) + row_told([1, 2, 3], 4) + row_told([4], 9)
        self.assertEqual([parts.part(number) for number in range(10)], laid)

    def test_what_are_no_worths_of_a_row_is_refused(self):
        parts = Parts()
        built(parts, [1, 2])
        ahead = told(parts)
        for thing in no_rows():
            need_refusal(self, NoRow, {"found": thing}, built, parts, thing)
        self.unchanged(parts, ahead)
        self.assertEqual(parts.leaf(0, 0), 3)

    def test_worths_changed_later_change_nothing(self):
        worths = [1, 2, 3]
        parts = Parts()
        root = built(parts, worths)
        worths[:] = [9, 9, 9]
        self.assertEqual(row_of(parts, root), [1, 2, 3])


class PuttingDownTest(PartsCase):
    """[64] A worth put down, and the way down."""

    def test_the_way_down_to_each_place(self):
        for size in range(1, 17):
            parts = Parts()
            root = built(parts, list(range(size)))
            for place in range(size):
                way = way_down(parts, root, place)
                self.assertIs(way.__class__, list)
                self.assertEqual(way[0], root)
                self.assertEqual(parts.part(way[-1]), ("leaf", place, place))
                with_place = [number for number in parts.numbers() if self.has(parts.part(number), place)]
                self.assertEqual(way, with_place[::-1])

    def has(self, part, place):
        low, high = stretch_of(part)
        return low <= place < high

    def test_the_way_down_from_a_part(self):
        parts = Parts()
        built(parts, list(range(6)))
        self.assertEqual(parts.part(9), ("fork", 3, 6, 5, 8))
        self.assertEqual([way_down(parts, 9, place) for place in (3, 4, 5)], [[9, 5], [9, 8, 6], [9, 8, 7]])
        self.assertEqual(way_down(parts, 5, 3), [5])
        for place in (0, 2, 6):
            need_refusal(self, NoPlace, {"found": place}, way_down, parts, 9, place)
        for place in (2, 4):
            need_refusal(self, NoPlace, {"found": place}, way_down, parts, 5, place)

    def test_a_worth_put_down_at_each_place(self):
        for size in range(1, 17):
            for place in range(size):
                parts = Parts()
                root = built(parts, list(range(size)))
                way = way_down(parts, root, place)
                elder = [parts.part(number) for number in range(2 * size - 1)]
                made = put_down(parts, root, place, 77)
                self.assertEqual(made, 2 * size - 1 + len(way) - 1)
                self.assertEqual(parts.many(), 2 * size - 1 + len(way))
                self.assertEqual([parts.part(number) for number in range(2 * size - 1)], elder)
                self.assertEqual(row_of(parts, made), [77 if at == place else at for at in range(size)])
                self.assertEqual(row_of(parts, root), list(range(size)))
                self.made_of(parts, size, way, place)

    def made_of(self, parts, size, way, place):
        """The new parts, from the leaf upwards, with the elder forks' other halves."""
        number = 2 * size - 1
        self.assertEqual(parts.part(number), ("leaf", place, 77))
        for at in range(len(way) - 2, -1, -1):
            elder = parts.part(way[at])
            halves_made = tuple(number if half == way[at + 1] else half for half in elder[3:])
            self.assertEqual(parts.part(number + 1), elder[:3] + halves_made)
            for half in elder[3:]:
                self.assertEqual(parts.pointers(half), 1 if half == way[at + 1] else 2)
            self.assertEqual(parts.pointers(number), 1)
            number += 1
        self.assertEqual(parts.pointers(number), 0)

    def test_by_hand(self):
        parts = Parts()
        root = built(parts, [7, 8, 9])
        self.assertEqual(put_down(parts, root, 1, 5), 7)
        made = [("leaf", 1, 5), ("fork", 1, 3, 5, 2), ("fork", 0, 3, 0, 6)]
        self.assertEqual([parts.part(at) for at in (5, 6, 7)], made)
        self.assertEqual(put_down(parts, 7, 0, 6), 9)
        self.assertEqual([parts.part(at) for at in (8, 9)], [("leaf", 0, 6), ("fork", 0, 3, 8, 6)])
        self.assertEqual(put_down(parts, root, 1, 8), 12)
        self.assertEqual(parts.part(12), ("fork", 0, 3, 0, 11))
        self.assertEqual(put_down(parts, 3, 2, 4), 14)
        self.assertEqual([parts.part(at) for at in (13, 14)], [("leaf", 2, 4), ("fork", 1, 3, 1, 13)])
        self.assertEqual(put_down(parts, 0, 0, 3), 15)
        self.assertEqual(parts.part(15), ("leaf", 0, 3))

    def test_nothing_is_held_and_elder_roots_stay(self):
        parts = Parts()
        root = built(parts, [1, 2, 3, 4])
        parts.hold(root)
        made = put_down(parts, root, 3, 9)
        self.assertEqual((parts.pointers(root), parts.pointers(made)), (1, 0))
        need_refusal(self, NoPart, {"found": made}, parts.release, made)
        parts.hold(made)
        self.assertEqual(parts.release(made), [7, 8, 9])
        self.assertEqual(row_of(parts, root), [1, 2, 3, 4])
        self.assertEqual(put_down(parts, root, 3, 9), 12)

    def test_refused_in_their_order_with_nothing_changed(self):
        parts = Parts()
        root = built(parts, [1, 2, 3, 4])
        parts.hold(root)
        gone = put_down(parts, root, 0, 9)
        parts.hold(gone)
        parts.release(gone)
        ahead = told(parts)
        for thing in no_parts(parts.numbers(), 10):
            for place in (0, 4, None):
                need_refusal(self, NoPart, {"found": thing}, way_down, parts, thing, place)
                need_refusal(self, NoPart, {"found": thing}, put_down, parts, thing, place, 5)
                need_refusal(self, NoPart, {"found": thing}, put_down, parts, thing, place, None)
        for place in no_places(4):
            need_refusal(self, NoPlace, {"found": place}, way_down, parts, root, place)
            for worth in (5, None, MOST + 1):
                need_refusal(self, NoPlace, {"found": place}, put_down, parts, root, place, worth)
        for place in [0, 1] + no_places(4):
            need_refusal(self, NoPlace, {"found": place}, put_down, parts, 5, place, 5)
        for worth in no_worths():
            need_refusal(self, NoWorth, {"found": worth}, put_down, parts, root, 0, worth)
        self.unchanged(parts, ahead)
        self.assertEqual(put_down(parts, root, 0, 5), 12)

    def test_the_way_down_is_a_new_list_and_changes_nothing(self):
        parts = Parts()
        root = built(parts, [1, 2, 3, 4])
        ahead = told(parts)
        way = way_down(parts, root, 2)
        way.append(77)
        way[0] = 78
        self.assertEqual(way_down(parts, root, 2), [6, 5, 3])
        self.unchanged(parts, ahead)

    def test_worths_put_down_one_on_the_other(self):
        for beginning in range(10):
            draws = Draws(beginning)
            size = 1 + draws.below(16)
            rows = [[draws.below(100) for _ in range(size)]]
            parts = Parts()
            roots = [built(parts, rows[0])]
            for _ in range(40):
                on, place, worth = draws.below(len(rows)), draws.below(size), draws.below(100)
                roots.append(put_down(parts, roots[on], place, worth))
                rows.append([worth if at == place else elder for at, elder in enumerate(rows[on])])
            self.assertEqual([row_of(parts, root) for root in roots], rows)


class InterfaceTest(unittest.TestCase):
    def test_what_the_interface_lists_is_defined_in_the_class_and_the_file(self):
        self.assertEqual(Parts.__module__, "makeskept.halves")
        for name in "leaf fork part many numbers hold release pointers".split():
            self.assertIn(name, vars(Parts))
        for name in "built put_down way_down".split():
            self.assertEqual(getattr(halves, name).__module__, "makeskept.halves")


if __name__ == "__main__":
    unittest.main()
