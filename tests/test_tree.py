"""[20], [21], [22], [24] The tree of makes, which both kinds of trees tell alike."""

import unittest

from makeskept.errors import NoMake, NoNumber
from makeskept.leaps import LeapTree
from makeskept.tree import MakeTree
from tests.shapes import grown, line_of, nearest_of, shapes, told, way_of
from tests.things import GREAT, need_refusal, need_too_many, no_makes, no_numbers, no_steps


class GrowingTests:
    """[20] How a tree grows, of either kind."""

    def test_at_first_make_0_is_there_alone(self):
        tree = self.kind()
        self.assertEqual(tree.many(), 1)
        self.assertEqual(told(tree), [(0, None, 0, [], [0])])

    def test_each_make_gets_the_next_number(self):
        for owns in shapes().values():
            tree = self.kind()
            for at, own in enumerate(owns):
                self.assertEqual(tree.grow(own), at + 1)
                self.assertEqual(tree.many(), at + 2)

    def test_no_make_is_refused_and_nothing_is_changed(self):
        for owns in shapes().values():
            tree = grown(self.kind(), owns)
            ahead = told(tree)
            for thing in no_makes(len(owns) + 1):
                need_refusal(self, NoMake, {"found": thing}, tree.grow, thing)
            self.assertEqual(told(tree), ahead)

    def test_a_tree_grows_on_behind_a_refusal(self):
        tree = grown(self.kind(), [0, 1])
        need_refusal(self, NoMake, {"found": 3}, tree.grow, 3)
        self.assertEqual(tree.grow(2), 3)
        self.assertEqual(tree.grow(3), 4)

    def test_there_are_at_most_64_makes(self):
        for owns in shapes().values():
            if len(owns) == 63:
                tree = grown(self.kind(), owns)
                ahead = told(tree)
                for make in range(64):
                    need_too_many(self, 65, tree.grow, make)
                self.assertEqual(tree.many(), 64)
                self.assertEqual(told(tree), ahead)

    def test_no_make_goes_ahead_of_too_many(self):
        tree = grown(self.kind(), range(63))
        for thing in no_makes(64):
            need_refusal(self, NoMake, {"found": thing}, tree.grow, thing)
        need_too_many(self, 65, tree.grow, 63)

    def test_two_trees_have_nothing_in_common(self):
        one = self.kind()
        other = self.kind()
        grown(one, [0, 1, 0])
        self.assertEqual(told(other), [(0, None, 0, [], [0])])
        self.assertEqual(other.grow(0), 1)
        self.assertEqual(one.many(), 4)


class TellingTests:
    """[21] What a tree tells of a make, of either kind."""

    def test_own_depth_on_and_line(self):
        for name, owns in shapes().items():
            tree = grown(self.kind(), owns)
            self.assertEqual(tree.many(), len(owns) + 1)
            for make in range(len(owns) + 1):
                line = line_of(owns, make)
                self.assertEqual(tree.own(make), owns[make - 1] if make else None, (name, make))
                self.assertEqual(tree.depth(make), len(line) - 1, (name, make))
                self.assertEqual(tree.line(make), line, (name, make))
                on = [at + 1 for at, own in enumerate(owns) if own == make]
                self.assertEqual(tree.on(make), on, (name, make))

    def test_a_tree_by_hand(self):
        tree = grown(self.kind(), [0, 0, 1, 3, 2, 1])
        self.assertEqual([tree.own(make) for make in range(7)], [None, 0, 0, 1, 3, 2, 1])
        self.assertEqual([tree.depth(make) for make in range(7)], [0, 1, 1, 2, 3, 2, 2])
        self.assertEqual([tree.on(make) for make in range(7)], [[1, 2], [3, 6], [5], [4], [], [], []])
        self.assertEqual(tree.line(4), [0, 1, 3, 4])
        self.assertEqual(tree.line(5), [0, 2, 5])

    def test_kinds_of_what_is_told(self):
        tree = grown(self.kind(), [0, 1])
        for number in (tree.many(), tree.own(2), tree.depth(0), tree.depth(2), tree.grow(0)):
            self.assertIs(number.__class__, int)
        for makes in (tree.on(2), tree.on(1), tree.line(0), tree.line(2)):
            self.assertIs(makes.__class__, list)
        self.assertIsNone(tree.own(0))

    def test_lists_are_new_ones_each_time(self):
        tree = grown(self.kind(), [0, 1, 0, 1])
        ahead = told(tree)
        for make in range(5):
            for ask in (tree.on, tree.line):
                makes = ask(make)
                self.assertIsNot(makes, ask(make))
                makes.insert(0, 77)
                makes.append(88)
        self.assertEqual(told(tree), ahead)
        self.assertEqual(tree.grow(1), 5)
        self.assertEqual(tree.on(1), [2, 4, 5])

    def test_a_list_that_was_told_stays_as_it_was(self):
        tree = grown(self.kind(), [0])
        makes = tree.on(0)
        tree.grow(0)
        self.assertEqual(makes, [1])

    def test_no_make_is_refused(self):
        for owns in ([], [0], [0, 1, 0], range(63)):
            tree = grown(self.kind(), owns)
            for ask in (tree.own, tree.depth, tree.on, tree.line):
                for thing in no_makes(len(owns) + 1):
                    need_refusal(self, NoMake, {"found": thing}, ask, thing)


class UpAndWaysTests:
    """[22] What a tree tells of a make and steps, and of two makes, of either kind."""

    def test_up_for_each_number_of_steps(self):
        for name, owns in shapes().items():
            tree = grown(self.kind(), owns)
            for make in range(len(owns) + 1):
                above = line_of(owns, make)[::-1]
                told_ones = [tree.up(make, steps) for steps in range(len(above))]
                self.assertEqual(told_ones, above, (name, make))

    def test_more_steps_than_the_depth_are_refused(self):
        for owns in shapes().values():
            tree = grown(self.kind(), owns)
            for make in range(len(owns) + 1):
                steps = tree.depth(make) + 1
                need_refusal(self, NoNumber, {"found": steps}, tree.up, make, steps)

    def test_what_is_no_number_of_steps_is_refused(self):
        tree = grown(self.kind(), [0, 1, 2, 3, 0])
        for make in range(6):
            for thing in no_steps(tree.depth(make)):
                need_refusal(self, NoNumber, {"found": thing}, tree.up, make, thing)

    def test_up_refuses_no_make_ahead_of_no_number(self):
        tree = grown(self.kind(), [0, 1])
        for thing in no_makes(3):
            for steps in [0, 1, 2, 3, -1, GREAT] + no_numbers():
                need_refusal(self, NoMake, {"found": thing}, tree.up, thing, steps)

    def test_nearest_way_and_apart(self):
        for name, owns in shapes().items():
            tree = grown(self.kind(), owns)
            for one in range(len(owns) + 1):
                for other in range(len(owns) + 1):
                    way = way_of(owns, one, other)
                    self.assertEqual(tree.nearest(one, other), nearest_of(owns, one, other), (name, one, other))
                    self.assertEqual(tree.way(one, other), way, (name, one, other))
                    self.assertEqual(tree.apart(one, other), len(way) - 1, (name, one, other))

    def test_pairs_by_hand(self):
        tree = grown(self.kind(), [0, 0, 1, 3, 2, 1])
        by_hand = [
            (0, 0, 0, [0]), (4, 4, 4, [4]), (1, 4, 1, [1, 3, 4]), (4, 1, 1, [4, 3, 1]), (4, 6, 1, [4, 3, 1, 6]),
            (6, 4, 1, [6, 1, 3, 4]), (4, 5, 0, [4, 3, 1, 0, 2, 5]), (5, 4, 0, [5, 2, 0, 1, 3, 4]), (0, 5, 0, [0, 2, 5]),
        ]
        for one, other, nearest, way in by_hand:
            self.assertEqual(tree.nearest(one, other), nearest)
            self.assertEqual(tree.way(one, other), way)
            self.assertEqual(tree.apart(one, other), len(way) - 1)

    def test_the_way_is_a_new_list_each_time(self):
        tree = grown(self.kind(), [0, 1, 0, 1])
        ahead = told(tree)
        for one in range(5):
            for other in range(5):
                way = tree.way(one, other)
                self.assertIs(way.__class__, list)
                way.append(77)
                way.insert(0, 88)
                self.assertEqual(tree.way(one, other), way[1:-1])
        self.assertEqual(told(tree), ahead)

    def test_no_makes_are_refused_the_first_one_first(self):
        tree = grown(self.kind(), [0, 1, 0])
        for ask in (tree.nearest, tree.way, tree.apart):
            for thing in no_makes(4):
                for make in range(4):
                    need_refusal(self, NoMake, {"found": thing}, ask, thing, make)
                    need_refusal(self, NoMake, {"found": thing}, ask, make, thing)
                for other in no_makes(4):
                    need_refusal(self, NoMake, {"found": thing}, ask, thing, other)

    def test_a_thing_in_both_places_is_refused(self):
        tree = grown(self.kind(), [0, 1, 0])
        for ask in (tree.nearest, tree.way, tree.apart):
            for thing in no_makes(4):
                need_refusal(self, NoMake, {"found": thing}, ask, thing, thing)

    def test_asking_and_refusing_change_nothing(self):
        tree = grown(self.kind(), [0, 1, 0, 2])
        ahead = told(tree)
        for one in range(-1, 6):
            for other in range(-1, 6):
                for ask in (tree.up, tree.nearest, tree.way, tree.apart):
                    try:
                        ask(one, other)
                    except (NoMake, NoNumber):
                        pass
        self.assertEqual(told(tree), ahead)


class CopyingTests:
    """[24] Copies of a tree, of either kind."""

    def test_a_copy_is_of_the_same_kind_and_tells_the_same(self):
        for owns in shapes().values():
            tree = grown(self.kind(), owns)
            ahead = told(tree)
            copy = tree.copied()
            self.assertIs(copy.__class__, self.kind)
            self.assertIsNot(copy, tree)
            self.assertEqual(told(copy), ahead)
            self.assertEqual(told(tree), ahead)

    def test_each_goes_its_own_way(self):
        for owns in shapes().values():
            if len(owns) < 60:
                tree = grown(self.kind(), owns)
                ahead = told(tree)
                copy = tree.copied()
                grown(copy, [0, len(owns), len(owns) + 1])
                self.assertEqual(told(tree), ahead)
                behind = told(copy)
                grown(tree, [len(owns), 0])
                self.assertEqual(told(copy), behind)
                self.assertEqual(told(tree), told(grown(self.kind(), list(owns) + [len(owns), 0])))
                self.assertEqual(behind, told(grown(self.kind(), list(owns) + [0, len(owns), len(owns) + 1])))

    def test_a_copy_of_a_copy(self):
        tree = grown(self.kind(), [0, 1, 0])
        copy = tree.copied().copied()
        self.assertIs(copy.__class__, self.kind)
        copy.grow(3)
        self.assertEqual(tree.many(), 4)
        self.assertEqual(copy.way(2, 4), [2, 1, 0, 3, 4])

    def test_a_copy_refuses_as_its_tree_does(self):
        copy = grown(self.kind(), range(63)).copied()
        need_refusal(self, NoMake, {"found": 64}, copy.grow, 64)
        need_too_many(self, 65, copy.grow, 63)
        young = grown(self.kind(), [0]).copied()
        need_refusal(self, NoMake, {"found": 2}, young.grow, 2)


class MakeTreeTest(GrowingTests, TellingTests, UpAndWaysTests, CopyingTests, unittest.TestCase):
    """The plain tree."""

    kind = MakeTree

    def test_what_the_interface_lists_is_defined_in_the_class_and_the_file(self):
        self.assertEqual(MakeTree.__module__, "makeskept.tree")
        for name in "many grow own depth on line up nearest way apart copied".split():
            self.assertIn(name, vars(MakeTree))


class LeapTreeTest(GrowingTests, TellingTests, UpAndWaysTests, CopyingTests, unittest.TestCase):
    """The tree that leaps, by the names of the plain one."""

    kind = LeapTree


if __name__ == "__main__":
    unittest.main()
