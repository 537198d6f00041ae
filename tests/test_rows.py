"""[47] A way made for a test under Rows, which tells only what is asked of a way; with [40] to [45] of it."""

import unittest

from makeskept.errors import Alone, Elder, NoChanges, NoMake, NoPlace, NoRow, NoStretch, NoWorth
from makeskept.rows import Rows
from tests.books import Book
from tests.things import need_refusal, need_too_many, no_changes, no_makes, no_places, no_rows, no_worths
from tests.ways import AllTests, tree_told

METHODS = (
    "way size many makes tree place_of writer put put_all at row stretch steps room let_go copied begin store need_new "
    "looked worths_in freed add_steps need_make need_place need_stretch same_makes"
)


class Whole(Rows):
    """A way that keeps the row of each kept make whole, and tells a worth at a time."""

    def way(self):
        return "whole"

    def room(self):
        return len(self.rows_kept)

    def copied(self):
        other = Whole([0] * self.size())
        other.rows_kept = {make: list(self.rows_kept[make]) for make in self.rows_kept}
        return self.same_makes(other)

    def begin(self, worths):
        self.rows_kept = {0: worths}

    def store(self, make, number, place, worth):
        self.rows_kept[number] = list(self.rows_kept[make])
        self.rows_kept[number][place] = worth
        self.add_steps(3)

    def looked(self, make, place):
        self.add_steps(2)
        return self.rows_kept[make][place]

    def freed(self, make):
        del self.rows_kept[make]
        self.add_steps(1)
        return [("gone", make)]


class WholeBook(Book):
    """What the way above counts and tells."""

    def put_steps(self, make, place):
        return 3

    def ask_steps(self, make, low, high):
        return 2 * (high - low)

    def freed(self, make):
        self.steps += 1
        return [("gone", make)]

    def room(self):
        return len(self.kept)


class WholeTest(AllTests, unittest.TestCase):
    """A way of a test's own tells what each way tells."""

    kind = Whole
    word = "whole"
    book = WholeBook


class Heard(Rows):
    """A way that writes down what it is asked, and how the makes stood then."""

    def way(self):
        return "heard"

    def room(self):
        return 0

    def copied(self):
        other = Heard([0] * self.size())
        told = self.same_makes(other)
        other.heard = [told is other]
        return told

    def hear(self, *asked):
        own = [self.tree().own(make) for make in range(self.many())]
        places = [self.place_of(make) for make in range(self.many())]
        self.heard.append(asked + ((own, places, self.makes(), self.size(), self.steps()),))

    def begin(self, worths):
        self.heard = []
        self.refused = None
        self.hear("begin", worths.__class__, list(worths))
        worths.append("the way's own")

    def need_new(self, make):
        self.hear("need_new", make)
        if self.refused is not None:
            raise Elder(self.refused)

    def store(self, make, number, place, worth):
        self.hear("store", make, number, place, worth)
        self.add_steps(1)

    def worths_in(self, make, low, high):
        self.hear("worths_in", make, low, high)
        self.add_steps(10)
        return list(range(100 + low, 100 + high))

    def freed(self, make):
        self.hear("freed", make)
        self.add_steps(100)
        return ["free", make]


class Looking(Rows):
    """A way that tells its worths one by one, and writes down which were looked for."""

    def begin(self, worths):
        self.heard = []

    def store(self, make, number, place, worth):
        pass

    def looked(self, make, place):
        self.heard.append((make, place))
        self.add_steps(place)
        return 10 * make + place


def heard_of(rows):
    """What was heard, without how the makes stood; from now on it is heard anew."""
    heard = [asked[:-1] for asked in rows.heard]
    rows.heard = []
    return heard


class AskedTest(unittest.TestCase):
    """[47] What a way is asked, when, and how the makes stand then."""

    def test_begin(self):
        for handed in ([4, 5, 6], (4, 5, 6)):
            rows = Heard(handed)
            self.assertEqual(rows.heard, [("begin", list, [4, 5, 6], ([None], [None], [0], 3, 0))])
            self.assertEqual(list(handed), [4, 5, 6])
            self.assertEqual((rows.size(), rows.many(), rows.steps()), (3, 1, 0))

    def test_begin_is_not_asked_of_what_is_refused(self):
        class Never(Rows):
            def begin(self, worths):
                raise AssertionError("asked")

        for thing in no_rows():
            need_refusal(self, NoRow, {"found": thing}, Never, thing)

    def test_need_new_then_store(self):
        rows = Heard([4, 5])
        heard_of(rows)
        self.assertEqual(rows.put(0, 1, 7), 1)
        self.assertEqual(rows.heard, [
            ("need_new", 0, ([None], [None], [0], 2, 0)),
            ("store", 0, 1, 1, 7, ([None, 0], [None, 1], [0, 1], 2, 0)),
        ])
        rows.heard = []
        self.assertEqual(rows.put(0, 0, 8), 2)
        self.assertEqual(rows.heard, [
            ("need_new", 0, ([None, 0], [None, 1], [0, 1], 2, 1)),
            ("store", 0, 2, 0, 8, ([None, 0, 0], [None, 1, 0], [0, 1, 2], 2, 1)),
        ])
        self.assertEqual(rows.steps(), 2)

    def test_changes_ask_need_new_once(self):
        rows = Heard([4, 5])
        rows.put(0, 0, 6)
        heard_of(rows)
        self.assertEqual(rows.put_all(0, [(1, 7), (0, 8), (1, 9)]), [2, 3, 4])
        self.assertEqual(rows.heard, [
            ("need_new", 0, ([None, 0], [None, 0], [0, 1], 2, 1)),
            ("store", 0, 2, 1, 7, ([None, 0, 0], [None, 0, 1], [0, 1, 2], 2, 1)),
            ("store", 2, 3, 0, 8, ([None, 0, 0, 2], [None, 0, 1, 0], [0, 1, 2, 3], 2, 2)),
            ("store", 3, 4, 1, 9, ([None, 0, 0, 2, 3], [None, 0, 1, 0, 1], [0, 1, 2, 3, 4], 2, 3)),
        ])

    def test_nothing_is_asked_where_there_are_no_changes(self):
        rows = Heard([4, 5])
        rows.refused = "refused"
        heard_of(rows)
        for changes in ([], ()):
            self.assertEqual(rows.put_all(0, changes), [])
        self.assertEqual(rows.heard, [])

    def test_what_a_way_refuses_of_its_own_changes_nothing(self):
        rows = Heard([4, 5])
        rows.put(0, 0, 6)
        found = ["of its own"]
        rows.refused = found
        heard_of(rows)
        need_refusal(self, Elder, {"found": found}, rows.put, 1, 0, 7)
        need_refusal(self, Elder, {"found": found}, rows.put_all, 0, [(0, 7), (1, 8)])
        self.assertEqual(heard_of(rows), [("need_new", 1), ("need_new", 0)])
        self.assertEqual((rows.many(), rows.makes(), rows.steps(), rows.place_of(1)), (2, [0, 1], 1, 0))
        need_refusal(self, NoMake, {"found": 2}, rows.place_of, 2)
        rows.refused = None
        self.assertEqual(rows.put(1, 0, 7), 2)

    def test_what_is_refused_ahead_of_need_new_and_behind_it(self):
        rows = Heard([4, 5])
        for make in range(63):
            rows.put(make, 0, 6)
        rows.refused = "refused"
        heard_of(rows)
        for make in no_makes(64):
            need_refusal(self, NoMake, {"found": make}, rows.put, make, None, None)
            need_refusal(self, NoMake, {"found": make}, rows.put_all, make, None)
        for place in no_places(2):
            need_refusal(self, NoPlace, {"found": place}, rows.put, 63, place, None)
        for worth in no_worths():
            need_refusal(self, NoWorth, {"found": worth}, rows.put, 63, 0, worth)
        for changes in no_changes(2):
            need_refusal(self, NoChanges, {"found": changes}, rows.put_all, 63, changes)
        self.assertEqual(rows.heard, [])
        need_refusal(self, Elder, {"found": "refused"}, rows.put, 63, 0, 1)
        need_refusal(self, Elder, {"found": "refused"}, rows.put_all, 63, [(0, 1)])
        rows.refused = None
        need_too_many(self, 65, rows.put, 62, 0, 1)
        need_too_many(self, 67, rows.put_all, 61, [(0, 1)] * 3)
        self.assertEqual(heard_of(rows), [("need_new", 63), ("need_new", 63), ("need_new", 62), ("need_new", 61)])
        self.assertEqual(rows.steps(), 63)

    def test_asks_by_stretches(self):
        rows = Heard([4, 5, 6])
        rows.put(0, 0, 7)
        heard_of(rows)
        self.assertEqual(rows.at(1, 2), 102)
        self.assertEqual(rows.row(0), [100, 101, 102])
        self.assertEqual(rows.stretch(1, 1, 3), [101, 102])
        self.assertEqual(rows.stretch(1, 0, 1), [100])
        asked = [("worths_in", 1, 2, 3), ("worths_in", 0, 0, 3), ("worths_in", 1, 1, 3), ("worths_in", 1, 0, 1)]
        self.assertEqual(heard_of(rows), asked)
        self.assertEqual(rows.steps(), 41)

    def test_nothing_is_asked_of_what_is_refused(self):
        rows = Heard([4, 5, 6])
        rows.put(0, 0, 7)
        rows.let_go(0)
        heard_of(rows)
        steps = rows.steps()
        for make in [0] + no_makes(2):
            need_refusal(self, NoMake, {"found": make}, rows.at, make, 0)
            need_refusal(self, NoMake, {"found": make}, rows.row, make)
            need_refusal(self, NoMake, {"found": make}, rows.stretch, make, 0, 1)
            need_refusal(self, NoMake, {"found": make}, rows.let_go, make)
        need_refusal(self, NoPlace, {"found": 3}, rows.at, 1, 3)
        need_refusal(self, NoStretch, {"low": 0, "high": 4}, rows.stretch, 1, 0, 4)
        need_refusal(self, Alone, {"found": 1}, rows.let_go, 1)
        self.assertEqual(heard_of(rows), [])
        self.assertEqual(rows.steps(), steps)

    def test_where_a_way_does_not_tell_stretches_each_place_is_looked_for(self):
        rows = Looking([4, 5, 6, 7])
        rows.put(0, 0, 7)
        rows.put(1, 0, 7)
        self.assertEqual(rows.steps(), 0)
        self.assertEqual(rows.at(2, 3), 23)
        self.assertEqual(rows.heard, [(2, 3)])
        self.assertEqual(rows.row(1), [10, 11, 12, 13])
        self.assertEqual(rows.heard, [(2, 3), (1, 0), (1, 1), (1, 2), (1, 3)])
        self.assertEqual(rows.stretch(0, 1, 3), [1, 2])
        self.assertEqual(rows.heard[5:], [(0, 1), (0, 2)])
        self.assertEqual(rows.steps(), 3 + 6 + 3)

    def test_freed_when_the_make_is_kept_no_more(self):
        rows = Heard([4, 5])
        rows.put(0, 0, 6)
        rows.put(1, 1, 7)
        rows.heard = []
        self.assertEqual(rows.let_go(1), ["free", 1])
        self.assertEqual(rows.heard, [("freed", 1, ([None, 0, 1], [None, 0, 1], [0, 2], 2, 2))])
        self.assertEqual(rows.steps(), 102)

    def test_same_makes_gives_the_copy_the_makes_and_steps_and_tells_it(self):
        rows = Heard([4, 5])
        rows.put_all(0, [(0, 6), (1, 7)])
        rows.put(0, 1, 8)
        rows.let_go(2)
        rows.row(1)
        other = rows.copied()
        self.assertIs(other.__class__, Heard)
        self.assertEqual(other.heard, [True])
        other.heard = []
        for made in (rows, other):
            self.assertEqual((made.many(), made.makes(), made.size(), made.steps()), (4, [0, 1, 3], 2, 113))
            self.assertEqual([made.place_of(make) for make in range(4)], [None, 0, 1, 1])
            self.assertEqual([made.writer(make, 1) for make in range(4)], [0, 0, 2, 3])
        self.assertEqual(tree_told(other), tree_told(rows))
        other.put(3, 0, 1)
        other.let_go(0)
        self.assertEqual((rows.many(), rows.makes(), rows.steps()), (4, [0, 1, 3], 113))
        self.assertEqual((other.many(), other.makes(), other.steps()), (5, [1, 3, 4], 214))
        self.assertEqual(rows.tree().many(), 4)
        rows.put(1, 1, 1)
        self.assertEqual(other.tree().own(4), 3)
        self.assertEqual(rows.tree().own(4), 1)
        self.assertEqual((other.place_of(4), rows.place_of(4)), (0, 1))

    def test_nothing_is_refused_where_a_way_does_not_tell_need_new(self):
        rows = Looking([1, 2])
        self.assertEqual(rows.put(0, 0, 5), 1)
        self.assertEqual(rows.put_all(0, [(1, 5), (1, 6)]), [2, 3])

    def test_steps_of_two_rows_of_one_way(self):
        one = Heard([1])
        other = Heard([1])
        one.at(0, 0)
        self.assertEqual((one.steps(), other.steps()), (10, 0))


class InterfaceTest(unittest.TestCase):
    def test_what_the_interface_lists_is_defined_in_the_class_and_the_file(self):
        self.assertEqual(Rows.__module__, "makeskept.rows")
        for name in METHODS.split():
            self.assertIn(name, vars(Rows))


if __name__ == "__main__":
    unittest.main()
