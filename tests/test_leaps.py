"""[23] The tree that leaps, with [24] for its copies."""

import unittest

from makeskept.errors import NoMake, NoNumber
from makeskept.leaps import LeapTree
from makeskept.tree import MakeTree
from tests.shapes import grown, leap_way_of, leaps_of, shapes, told
from tests.things import GREAT, need_refusal, need_too_many, no_makes, no_numbers, no_steps


def leaps_told(tree):
    """The leaps of all makes, and all ways by leaps."""
    makes = range(tree.many())
    ways = [[tree.leap_way(make, steps) for steps in range(tree.depth(make) + 1)] for make in makes]
    return [tree.leaps(make) for make in makes], ways


class LeapsTest(unittest.TestCase):
    def test_leaps_of_each_make(self):
        for name, owns in shapes().items():
            tree = grown(LeapTree(), owns)
            for make in range(len(owns) + 1):
                self.assertEqual(tree.leaps(make), leaps_of(owns, make), (name, make))

    def test_leaps_while_the_tree_grows(self):
        for owns in shapes().values():
            tree = LeapTree()
            for own in owns:
                make = tree.grow(own)
                self.assertEqual(tree.leaps(make), leaps_of(owns, make))

    def test_leaps_by_hand(self):
        tree = grown(LeapTree(), range(63))
        self.assertEqual(tree.leaps(0), [])
        self.assertEqual(tree.leaps(1), [0])
        self.assertEqual(tree.leaps(2), [1, 0])
        self.assertEqual(tree.leaps(3), [2, 1])
        self.assertEqual(tree.leaps(4), [3, 2, 0])
        self.assertEqual(tree.leaps(31), [30, 29, 27, 23, 15])
        self.assertEqual(tree.leaps(32), [31, 30, 28, 24, 16, 0])
        self.assertEqual(tree.leaps(63), [62, 61, 59, 55, 47, 31])

    def test_leaps_are_told_as_new_lists(self):
        tree = grown(LeapTree(), range(10))
        for make in range(11):
            leaps = tree.leaps(make)
            self.assertIs(leaps.__class__, list)
            leaps.insert(0, 77)
            leaps.append(88)
            self.assertEqual(tree.leaps(make), leaps[1:-1])
        tree.grow(10)
        self.assertEqual(tree.leaps(11), [10, 9, 7, 3])
        self.assertEqual(tree.leap_way(11, 11), [3, 1, 0])

    def test_no_make_is_refused(self):
        for owns in ([], [0], [0, 1, 0], range(63)):
            tree = grown(LeapTree(), owns)
            for thing in no_makes(len(owns) + 1):
                need_refusal(self, NoMake, {"found": thing}, tree.leaps, thing)


class LeapWayTest(unittest.TestCase):
    def test_each_number_of_steps(self):
        for name, owns in shapes().items():
            tree = grown(LeapTree(), owns)
            for make in range(len(owns) + 1):
                for steps in range(tree.depth(make) + 1):
                    way = leap_way_of(owns, make, steps)
                    self.assertEqual(tree.leap_way(make, steps), way, (name, make, steps))

    def test_ways_by_hand(self):
        tree = grown(LeapTree(), range(63))
        self.assertEqual(tree.leap_way(0, 0), [])
        self.assertEqual(tree.leap_way(63, 0), [])
        self.assertEqual(tree.leap_way(63, 1), [62])
        self.assertEqual(tree.leap_way(63, 5), [59, 58])
        self.assertEqual(tree.leap_way(50, 32), [18])
        self.assertEqual(tree.leap_way(50, 50), [18, 2, 0])
        self.assertEqual(tree.leap_way(63, 63), [31, 15, 7, 3, 1, 0])

    def test_each_step_is_a_leap_and_the_last_one_comes_down_right(self):
        for owns in shapes().values():
            tree = grown(LeapTree(), owns)
            for make in range(len(owns) + 1):
                for steps in range(1, tree.depth(make) + 1):
                    way = tree.leap_way(make, steps)
                    for at, behind in zip([make] + way, way):
                        self.assertIn(behind, tree.leaps(at))
                    self.assertEqual(way[-1], tree.up(make, steps))

    def test_the_way_is_a_new_list_each_time(self):
        tree = grown(LeapTree(), range(10))
        for steps in range(11):
            way = tree.leap_way(10, steps)
            self.assertIs(way.__class__, list)
            way.append(77)
            self.assertEqual(tree.leap_way(10, steps), way[:-1])

    def test_more_steps_than_the_depth_are_refused(self):
        for owns in shapes().values():
            tree = grown(LeapTree(), owns)
            for make in range(len(owns) + 1):
                steps = tree.depth(make) + 1
                need_refusal(self, NoNumber, {"found": steps}, tree.leap_way, make, steps)

    def test_what_is_no_number_of_steps_is_refused(self):
        tree = grown(LeapTree(), [0, 1, 2, 3, 0])
        for make in range(6):
            for thing in no_steps(tree.depth(make)):
                need_refusal(self, NoNumber, {"found": thing}, tree.leap_way, make, thing)

    def test_no_make_goes_ahead_of_no_number(self):
        tree = grown(LeapTree(), [0, 1])
        for thing in no_makes(3):
            for steps in [0, 1, 2, 3, -1, GREAT] + no_numbers():
                need_refusal(self, NoMake, {"found": thing}, tree.leap_way, thing, steps)


class KindsOfTreesTest(unittest.TestCase):
    def test_the_one_that_leaps_stands_under_the_other_one(self):
        self.assertTrue(issubclass(LeapTree, MakeTree))
        self.assertFalse(issubclass(MakeTree, LeapTree))

    def test_what_the_interface_lists_is_defined_in_the_class_and_the_file(self):
        self.assertEqual(LeapTree.__module__, "makeskept.leaps")
        for name in ("leaps", "leap_way"):
            self.assertIn(name, vars(LeapTree))

    def test_both_kinds_tell_the_same(self):
        for owns in shapes().values():
            plain = grown(MakeTree(), owns)
            leaping = grown(LeapTree(), owns)
            self.assertEqual(told(plain), told(leaping))
            for one in range(len(owns) + 1):
                for steps in range(plain.depth(one) + 1):
                    self.assertEqual(plain.up(one, steps), leaping.up(one, steps))
                for other in range(len(owns) + 1):
                    for name in ("nearest", "way", "apart"):
                        self.assertEqual(getattr(plain, name)(one, other), getattr(leaping, name)(one, other))


class LeapsOfCopiesTest(unittest.TestCase):
    def test_a_copy_has_the_same_leaps(self):
        for owns in shapes().values():
            tree = grown(LeapTree(), owns)
            ahead = leaps_told(tree)
            copy = tree.copied()
            self.assertIs(copy.__class__, LeapTree)
            self.assertEqual(leaps_told(copy), ahead)
            self.assertEqual(leaps_told(tree), ahead)

    def test_each_goes_its_own_way(self):
        tree = grown(LeapTree(), range(7))
        copy = tree.copied()
        self.assertEqual(copy.grow(7), 8)
        self.assertEqual(tree.grow(0), 8)
        self.assertEqual(tree.grow(8), 9)
        self.assertEqual(copy.leaps(8), [7, 6, 4, 0])
        self.assertEqual(tree.leaps(8), [0])
        self.assertEqual(tree.leaps(9), [8, 0])
        need_refusal(self, NoMake, {"found": 9}, copy.leaps, 9)
        need_refusal(self, NoNumber, {"found": 2}, tree.leap_way, 8, 2)
        self.assertEqual(copy.leap_way(8, 8), [0])

    def test_a_copy_leaps_on(self):
        copy = grown(LeapTree(), range(40)).copied()
        grown(copy, range(40, 63))
        self.assertEqual(leaps_told(copy), leaps_told(grown(LeapTree(), range(63))))


class RefusedGrowthTest(unittest.TestCase):
    def test_no_leaps_are_changed_by_a_refusal(self):
        tree = grown(LeapTree(), range(63))
        ahead = leaps_told(tree)
        for thing in no_makes(64):
            need_refusal(self, NoMake, {"found": thing}, tree.grow, thing)
        for make in range(64):
            need_too_many(self, 65, tree.grow, make)
        self.assertEqual(leaps_told(tree), ahead)

    def test_leaps_go_on_behind_a_refusal(self):
        tree = grown(LeapTree(), range(3))
        need_refusal(self, NoMake, {"found": 4}, tree.grow, 4)
        self.assertEqual(tree.grow(3), 4)
        self.assertEqual(tree.leaps(4), [3, 2, 0])


if __name__ == "__main__":
    unittest.main()
