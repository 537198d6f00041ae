"""[40] to [45] What every way tells, tested for each way by its own kind and its own book."""

import copy

from makeskept.errors import Alone, NoChanges, NoMake, NoPlace, NoRow, NoStretch, NoWorth
from makeskept.leaps import LeapTree
from makeskept.rows import Rows
from tests.books import done, script, some_deed
from tests.shapes import shapes
from tests.things import GREAT, need_refusal, need_too_many, no_changes, no_makes, no_places, no_rows, no_stretches
from tests.things import no_worths

MOST = 10 ** 30 - 1


def tree_told(rows):
    """The own makes, and the kind and leaps of the tree."""
    tree = rows.tree()
    return tree.__class__, [(tree.own(make), tree.leaps(make)) for make in range(tree.many())]


def makes_told(rows):
    """All that a row tells of its makes without a step: of what it keeps, its room."""
    makes = range(rows.many())
    of_makes = [(rows.place_of(make), [rows.writer(make, at) for at in range(rows.size())]) for make in makes]
    return rows.way(), rows.size(), rows.many(), rows.makes(), tree_told(rows), of_makes, rows.room(), rows.steps()


def rows_told(rows):
    """The rows of all kept makes, asked of a copy, so that the row itself stays as it is."""
    other = rows.copied()
    return {make: other.row(make) for make in other.makes()}


class WayCase:
    """What the tests of each way have: a kind of row, its word, its book, and whether its makes are lines."""

    kind = None
    word = None
    book = None
    lines = False

    def own_told(self, rows):
        """What the way tells of its own without a step."""
        return None

    def own_of_book(self, book):
        """The same, of the book."""
        return None

    def told(self, rows):
        return makes_told(rows), rows_told(rows), self.own_told(rows)

    def made(self, worths, puts=()):
        """A row with these puts, each (make, place, worth)."""
        rows = self.kind(worths)
        for make, place, worth in puts:
            rows.put(make, place, worth)
        return rows

    def check(self, rows, book):
        """The row tells all that the book tells."""
        self.assertEqual(rows.steps(), book.steps)
        self.assertEqual(rows.room(), book.room())
        self.assertEqual(self.own_told(rows), self.own_of_book(book))
        self.assertEqual((rows.way(), rows.size(), rows.many()), (self.word, book.size(), book.many()))
        self.assertEqual(rows.makes(), sorted(book.kept))
        tree = rows.tree()
        self.assertEqual([tree.own(make) for make in range(book.many())], book.owns)
        self.assertEqual([rows.place_of(make) for make in range(book.many())], book.places)
        self.assertEqual(rows_told(rows), {make: book.rows[make] for make in book.kept})
        self.assertEqual(rows.steps(), book.steps)

    def check_writers(self, rows, book):
        for make in range(book.many()):
            for place in range(book.size()):
                self.assertEqual(rows.writer(make, place), book.writer(make, place))

    def unchanged(self, rows, ahead):
        """The row is as it was."""
        self.assertEqual(self.told(rows), ahead)


class MakingTests:
    """[40] How a row is made, and what it tells at first."""

    def test_rows_of_each_size_as_lists_and_tuples(self):
        for size in range(1, 17):
            worths = [(MOST, -MOST, 0, 5, -7)[at % 5] for at in range(size)]
            for handed in (worths, tuple(worths)):
                rows = self.kind(handed)
                self.check(rows, self.book(worths))
                self.assertEqual([rows.at(0, place) for place in range(size)], worths)
                self.assertEqual([rows.writer(0, place) for place in range(size)], [0] * size)

    def test_at_first(self):
        rows = self.kind([4, 5])
        self.assertEqual((rows.many(), rows.makes(), rows.size(), rows.steps()), (1, [0], 2, 0))
        self.assertEqual(rows.way(), self.word)
        self.assertIsNone(rows.place_of(0))
        self.assertEqual(tree_told(rows), (LeapTree, [(None, [])]))

    def test_what_are_no_worths_of_a_row_is_refused(self):
        for thing in no_rows():
            need_refusal(self, NoRow, {"found": thing}, self.kind, thing)

    def test_kinds_of_what_is_told(self):
        rows = self.made([4, 5], [(0, 1, 6)])
        for number in (rows.size(), rows.many(), rows.steps(), rows.room(), rows.place_of(1), rows.writer(1, 1)):
            self.assertIs(number.__class__, int)
        for number in (rows.put(1, 0, 3), rows.at(1, 1)):
            self.assertIs(number.__class__, int)
        for things in (rows.makes(), rows.row(1), rows.stretch(1, 0, 2), rows.put_all(2, ((1, 1),)), rows.let_go(0)):
            self.assertIs(things.__class__, list)
        self.assertIs(rows.way().__class__, str)

    def test_the_way_stands_under_rows_and_tells_its_own_in_its_class(self):
        self.assertTrue(issubclass(self.kind, Rows))
        self.assertIsNot(self.kind, Rows)
        for name in ("way", "room", "copied"):
            self.assertIn(name, vars(self.kind))

    def test_two_rows_have_nothing_in_common(self):
        worths = [1, 2, 3]
        one = self.kind(worths)
        other = self.kind(worths)
        one.put_all(0, [(0, 9), (1, 8), (0, 7)])
        one.let_go(1)
        one.row(3)
        self.check(other, self.book(worths))
        self.assertEqual(other.put(0, 2, 5), 1)
        self.assertEqual(one.many(), 4)
        self.assertEqual(one.copied().row(3), [7, 8, 3])

    def test_the_tree_is_a_copy(self):
        rows = self.made([1, 2], [(0, 0, 3), (1, 1, 4)])
        ahead = self.told(rows)
        tree = rows.tree()
        self.assertIs(tree.__class__, LeapTree)
        self.assertEqual([tree.grow(make) for make in (2, 0, 0)], [3, 4, 5])
        self.unchanged(rows, ahead)
        self.assertEqual(rows.put(2, 0, 9), 3)
        self.assertEqual(rows.tree().line(3), [0, 1, 2, 3])
        self.assertEqual(tree.line(4), [0, 4])
        self.assertEqual(tree.many(), 6)

    def test_kept_makes_are_a_new_list_each_time(self):
        rows = self.made([1, 2], [(0, 0, 3), (1, 1, 4)])
        makes = rows.makes()
        makes.remove(1)
        makes.append(3)
        self.assertEqual(rows.makes(), [0, 1, 2])
        self.assertEqual(rows.row(1), [3, 2])
        need_refusal(self, NoMake, {"found": 3}, rows.row, 3)

    def test_place_of_and_writer_also_of_makes_that_were_let_go(self):
        rows = self.made([1, 2, 3], [(0, 0, 4), (1, 2, 5), (2, 0, 6), (3, 1, 7)])
        for gone in (0, 3, 1):
            rows.let_go(gone)
            self.assertEqual([rows.place_of(make) for make in range(5)], [None, 0, 2, 0, 1])
            writers = [[rows.writer(make, place) for place in range(3)] for make in range(5)]
            self.assertEqual(writers, [[0, 0, 0], [1, 0, 0], [1, 0, 2], [3, 0, 2], [3, 4, 2]])

    def test_place_of_refuses_what_is_not_there(self):
        for puts in ([], [(0, 0, 4), (1, 1, 5)]):
            rows = self.made([1, 2], puts)
            ahead = self.told(rows)
            for thing in no_makes(len(puts) + 1):
                need_refusal(self, NoMake, {"found": thing}, rows.place_of, thing)
            self.unchanged(rows, ahead)

    def test_writer_refuses_what_is_not_there_then_no_place(self):
        rows = self.made([1, 2], [(0, 0, 4), (1, 1, 5)])
        rows.let_go(1)
        ahead = self.told(rows)
        for thing in no_makes(3):
            for place in [0, 1] + no_places(2):
                need_refusal(self, NoMake, {"found": thing}, rows.writer, thing, place)
        for place in no_places(2):
            for make in (0, 1, 2):
                need_refusal(self, NoPlace, {"found": place}, rows.writer, make, place)
        self.unchanged(rows, ahead)


class PuttingTests:
    """[41] Puts and changes."""

    def test_every_shape_of_tree(self):
        for name, owns in shapes().items():
            if not self.lines or owns == list(range(len(owns))):
                rows = self.kind([1, 2, 3])
                book = self.book([1, 2, 3])
                for at, own in enumerate(owns):
                    deed = (own, at * at % 3, (at * 5 - 7) % 4)
                    self.assertEqual(rows.put(*deed), at + 1, name)
                    book.put(*deed)
                self.check(rows, book)
                self.check_writers(rows, book)

    def test_a_worth_that_stands_there_already(self):
        rows = self.made([1, 2], [(0, 0, 1), (1, 0, 1)])
        self.assertEqual(rows.makes(), [0, 1, 2])
        self.assertEqual([rows.place_of(make) for make in range(3)], [None, 0, 0])
        self.assertEqual([rows.writer(make, 0) for make in range(3)], [0, 1, 2])
        self.assertEqual(rows.row(2), [1, 2])

    def test_the_least_and_the_greatest_worths(self):
        rows = self.made([0, 0], [(0, 0, MOST), (1, 1, -MOST)])
        self.assertEqual(rows.put_all(2, [(0, -MOST), (1, MOST)]), [3, 4])
        self.assertEqual(rows.row(2), [MOST, -MOST])
        self.assertEqual(rows.row(4), [-MOST, MOST])

    def test_puts_refuse_in_their_order(self):
        rows = self.made([1, 2, 3], [(0, 0, 4), (1, 1, 5)])
        ahead = self.told(rows)
        for make in no_makes(3):
            for place, worth in ((0, 5), (3, 5), (0, None), (True, MOST + 1)):
                need_refusal(self, NoMake, {"found": make}, rows.put, make, place, worth)
        for place in no_places(3):
            for worth in (5, None, MOST + 1):
                need_refusal(self, NoPlace, {"found": place}, rows.put, 2, place, worth)
        for worth in no_worths():
            need_refusal(self, NoWorth, {"found": worth}, rows.put, 2, 0, worth)
        self.unchanged(rows, ahead)
        self.assertEqual(rows.put(2, 0, 0), 3)

    def test_all_places_of_rows_of_each_size(self):
        for size in range(1, 17):
            rows = self.kind([0] * size)
            for place in range(size):
                self.assertEqual(rows.put(place, place, place + 1), place + 1)
            need_refusal(self, NoPlace, {"found": size}, rows.put, size, size, 1)
            self.assertEqual(rows.row(size), list(range(1, size + 1)))
            self.assertEqual(rows.row(0), [0] * size)

    def test_makes_that_were_let_go_are_no_makes(self):
        rows = self.made([1, 2, 3], [(0, 0, 4), (1, 1, 5), (2, 2, 6)])
        rows.let_go(1)
        rows.let_go(0)
        ahead = self.told(rows)
        for make in (0, 1):
            need_refusal(self, NoMake, {"found": make}, rows.put, make, 0, 1)
            need_refusal(self, NoMake, {"found": make}, rows.put, make, None, None)
            need_refusal(self, NoMake, {"found": make}, rows.put_all, make, [(0, 1)])
            need_refusal(self, NoMake, {"found": make}, rows.put_all, make, [])
            need_refusal(self, NoMake, {"found": make}, rows.at, make, 0)
            need_refusal(self, NoMake, {"found": make}, rows.row, make)
            need_refusal(self, NoMake, {"found": make}, rows.stretch, make, 0, 1)
            need_refusal(self, NoMake, {"found": make}, rows.let_go, make)
        self.unchanged(rows, ahead)

    def test_changes_none_one_and_several_at_one_place(self):
        for hand in (list, tuple):
            rows = self.kind([1, 2, 3])
            self.assertEqual(rows.put_all(0, hand([])), [])
            self.check(rows, self.book([1, 2, 3]))
            self.assertEqual(rows.put_all(0, hand([(1, 7)])), [1])
            self.assertEqual(rows.put_all(1, hand([(2, 8), (0, 9), (2, 8), (2, 0)])), [2, 3, 4, 5])
            self.assertEqual([rows.row(make) for make in range(6)],
                             [[1, 2, 3], [1, 7, 3], [1, 7, 8], [9, 7, 8], [9, 7, 8], [9, 7, 0]])
            self.assertEqual([rows.tree().own(make) for make in range(6)], [None, 0, 1, 2, 3, 4])
            self.assertEqual([rows.place_of(make) for make in range(6)], [None, 1, 2, 0, 2, 2])

    def test_twenty_changes_and_twenty_one(self):
        rows = self.kind([1, 2])
        changes = [(at % 2, at) for at in range(21)]
        need_refusal(self, NoChanges, {"found": changes}, rows.put_all, 0, changes)
        self.check(rows, self.book([1, 2]))
        self.assertEqual(rows.put_all(0, changes[:20]), list(range(1, 21)))
        self.assertEqual(rows.row(20), [18, 19])

    def test_changes_count_what_their_puts_do_one_by_one(self):
        changes = [(0, 5), (2, 6), (0, 7), (1, 8)]
        together = self.made([1, 2, 3], [(0, 1, 4)])
        single = self.made([1, 2, 3], [(0, 1, 4)])
        self.assertEqual(together.put_all(1, changes), [2, 3, 4, 5])
        for at, (place, worth) in enumerate(changes):
            single.put(at + 1, place, worth)
        self.assertEqual(self.told(together), self.told(single))

    def test_changes_are_refused_in_their_order(self):
        rows = self.made([1, 2, 3], [(0, 0, 4), (1, 1, 5)])
        ahead = self.told(rows)
        for make in no_makes(3):
            for changes in ([], [(0, 1)], None, [(3, 0)]):
                need_refusal(self, NoMake, {"found": make}, rows.put_all, make, changes)
        for changes in no_changes(3):
            need_refusal(self, NoChanges, {"found": changes}, rows.put_all, 2, changes)
        self.unchanged(rows, ahead)
        self.assertEqual(rows.put_all(2, [(0, 0)]), [3])

    def test_there_are_at_most_64_makes(self):
        rows = self.made([1, 2, 3], [(at, at % 3, at) for at in range(63)])
        ahead = self.told(rows)
        self.assertEqual(rows.many(), 64)
        need_too_many(self, 65, rows.put, 63, 0, 1)
        for many in range(1, 21):
            need_too_many(self, 64 + many, rows.put_all, 63, [(0, 1)] * many)
        self.assertEqual(rows.put_all(63, []), [])
        self.assertEqual(rows.put_all(0, ()), [])
        self.unchanged(rows, ahead)
        need_refusal(self, NoMake, {"found": 64}, rows.put, 64, 0, 1)
        need_refusal(self, NoPlace, {"found": 3}, rows.put, 63, 3, 1)
        need_refusal(self, NoWorth, {"found": None}, rows.put, 63, 0, None)
        wrong = [(0, 1), (3, 1)]
        need_refusal(self, NoMake, {"found": -1}, rows.put_all, -1, wrong)
        need_refusal(self, NoChanges, {"found": wrong}, rows.put_all, 63, wrong)
        self.unchanged(rows, ahead)

    def test_makes_that_were_let_go_are_counted(self):
        rows = self.made([1, 2, 3], [(at, at % 3, at) for at in range(63)])
        for make in range(40):
            rows.let_go(make)
        ahead = self.told(rows)
        need_too_many(self, 65, rows.put, 63, 0, 1)
        need_too_many(self, 66, rows.put_all, 63, [(0, 1)] * 2)
        self.unchanged(rows, ahead)

    def test_changes_that_would_make_too_many_put_nothing(self):
        rows = self.made([1, 2, 3], [(at, at % 3, at) for at in range(50)])
        ahead = self.told(rows)
        for many in range(14, 21):
            need_too_many(self, 51 + many, rows.put_all, 50, [(at % 3, at) for at in range(many)])
        self.unchanged(rows, ahead)
        self.assertEqual(rows.put_all(50, [(0, at) for at in range(13)]), list(range(51, 64)))
        need_too_many(self, 65, rows.put, 63, 0, 1)

    def test_changes_handed_in_stay_and_are_copied(self):
        worths = [1, 2, 3]
        changes = [(0, 5), (2, 6)]
        rows = self.kind(worths)
        rows.put_all(0, changes)
        self.assertEqual((worths, changes), ([1, 2, 3], [(0, 5), (2, 6)]))
        ahead = self.told(rows)
        worths[0] = 77
        worths.append(78)
        changes[0] = (1, 79)
        del changes[1]
        self.unchanged(rows, ahead)
        self.assertEqual(rows.row(0), [1, 2, 3])
        self.assertEqual(rows.row(2), [5, 2, 6])

    def test_told_lists_that_are_changed_change_nothing(self):
        rows = self.kind([1, 2, 3])
        numbers = rows.put_all(0, [(0, 5), (2, 6)])
        numbers[0] = 77
        ahead = self.told(rows)
        for ask in (lambda: rows.copied().row(2), lambda: rows.copied().stretch(2, 0, 3), rows.makes):
            things = ask()
            things[0] = 77
            things.append(78)
        self.unchanged(rows, ahead)
        row = rows.row(2)
        row[:] = [0]
        part = rows.stretch(2, 0, 3)
        self.assertEqual(part, [5, 2, 6])
        part[1] = 9
        self.assertEqual(rows.row(2), [5, 2, 6])
        self.assertEqual(rows.row(1), [5, 2, 3])
        self.assertEqual(rows.put(2, 1, 4), 3)
        self.assertEqual(rows.row(3), [5, 4, 6])
        self.assertEqual(rows.row(0), [1, 2, 3])


class AskingTests:
    """[42], [43] Places, rows and stretches, and the steps of asks."""

    def test_every_place_and_every_stretch(self):
        for size in (1, 2, 3, 7, 16):
            rows = self.kind(range_row(size))
            book = self.book(range_row(size))
            for at in range(20):
                own = at if self.lines or at % 4 else at // 2
                for made in (rows, book):
                    made.put(own, at * 3 % size, at)
            for make in (0, 1, 4, 11, 20):
                for low in range(size):
                    for high in range(low + 1, size + 1):
                        told = rows.stretch(make, low, high)
                        self.assertEqual(told, book.asked(make, low, high))
                    self.assertEqual([rows.at(make, low)], book.asked(make, low, low + 1))
                    self.assertEqual(rows.steps(), book.steps)
                self.assertEqual(rows.row(make), book.asked(make, 0, size))
            self.check(rows, book)

    def test_asks_refuse_in_their_order(self):
        rows = self.made([1, 2, 3], [(0, 0, 4), (1, 1, 5)])
        ahead = self.told(rows)
        for make in no_makes(3):
            need_refusal(self, NoMake, {"found": make}, rows.row, make)
            for place in [0, 2, 3, None, -1]:
                need_refusal(self, NoMake, {"found": make}, rows.at, make, place)
                need_refusal(self, NoMake, {"found": make}, rows.stretch, make, place, 3)
                need_refusal(self, NoMake, {"found": make}, rows.stretch, make, 0, place)
        for make in (0, 1, 2):
            for place in no_places(3):
                need_refusal(self, NoPlace, {"found": place}, rows.at, make, place)
        self.unchanged(rows, ahead)

    def test_no_stretches(self):
        for size in (1, 2, 3, 16):
            rows = self.made([0] * size, [(0, 0, 4), (1, size - 1, 5)])
            ahead = self.told(rows)
            for low, high in no_stretches(size):
                need_refusal(self, NoStretch, {"low": low, "high": high}, rows.stretch, 1, low, high)
            self.unchanged(rows, ahead)

    def test_what_may_be_asked_of_it_refuses_as_asks_do(self):
        rows = self.made([1, 2, 3], [(0, 0, 4), (1, 1, 5)])
        rows.let_go(1)
        ahead = self.told(rows)
        for make in [1] + no_makes(3):
            need_refusal(self, NoMake, {"found": make}, rows.need_make, make)
        for place in no_places(3):
            need_refusal(self, NoPlace, {"found": place}, rows.need_place, place)
        for low, high in no_stretches(3):
            need_refusal(self, NoStretch, {"low": low, "high": high}, rows.need_stretch, low, high)
        for make in (0, 2):
            self.assertIsNone(rows.need_make(make))
        for place in range(3):
            self.assertIsNone(rows.need_place(place))
            for high in range(place + 1, 4):
                self.assertIsNone(rows.need_stretch(place, high))
        self.unchanged(rows, ahead)

    def test_what_counts_no_step(self):
        rows = self.made([1, 2, 3], [(0, 0, 4), (1, 1, 5), (2, 0, 6)])
        ahead = rows.steps()
        for _ in range(3):
            makes_told(rows)
            rows.copied().row(3)
            self.own_told(rows)
            rows.tree().grow(0)
            rows.put_all(3, [])
            rows.need_make(0)
        self.assertEqual(rows.steps(), ahead)


class LettingGoTests:
    """[44] Makes that are let go."""

    def test_the_last_kept_make_is_refused(self):
        rows = self.kind([1, 2])
        need_refusal(self, Alone, {"found": 0}, rows.let_go, 0)
        self.check(rows, self.book([1, 2]))
        rows = self.made([1, 2], [(0, 0, 4), (1, 1, 5)])
        rows.let_go(1)
        rows.let_go(0)
        ahead = self.told(rows)
        need_refusal(self, Alone, {"found": 2}, rows.let_go, 2)
        self.unchanged(rows, ahead)
        self.assertEqual(rows.row(2), [4, 5])

    def test_no_make_goes_ahead_of_alone(self):
        rows = self.made([1, 2], [(0, 0, 4)])
        for make in no_makes(2):
            need_refusal(self, NoMake, {"found": make}, rows.let_go, make)
        rows.let_go(0)
        ahead = self.told(rows)
        for make in [0] + no_makes(2):
            need_refusal(self, NoMake, {"found": make}, rows.let_go, make)
        need_refusal(self, Alone, {"found": 1}, rows.let_go, 1)
        self.unchanged(rows, ahead)

    def test_the_tree_keeps_makes_that_were_let_go(self):
        rows = self.made([1, 2], [(0, 0, 4), (1, 1, 5), (2, 0, 6)])
        ahead = tree_told(rows)
        for make in (1, 2, 0):
            rows.let_go(make)
            self.assertEqual(tree_told(rows), ahead)
            self.assertEqual(rows.many(), 4)
        self.assertEqual(rows.makes(), [3])
        self.assertEqual(rows.put(3, 1, 9), 4)
        self.assertEqual(rows.makes(), [3, 4])
        self.assertEqual(rows.row(4), [6, 9])

    def test_makes_of_every_shape_let_go_in_several_orders(self):
        for owns in shapes().values():
            if len(owns) > 2 and (not self.lines or owns == list(range(len(owns)))):
                for stride in (1, 5, 29, 63):
                    rows = self.kind([1, 2, 3, 4, 5])
                    book = self.book([1, 2, 3, 4, 5])
                    for at, own in enumerate(owns):
                        for made in (rows, book):
                            made.put(own, at * at % 5, at)
                    many = len(owns) + 1
                    order = sorted(range(many), key=lambda make: (make * stride + 7) % 67)
                    for at, make in enumerate(order[:-1]):
                        self.assertEqual(rows.let_go(make), book.let_go(make))
                        if at % 9 == 0 or at > many - 5:
                            self.check(rows, book)


class CopyingTests:
    """[45] Copies of a row."""

    def test_a_copy_tells_the_same(self):
        rows = self.made([1, 2, 3], [(0, 0, 4), (1, 1, 5), (2, 0, 6)])
        for deed in (lambda: rows.row(1), lambda: rows.let_go(1), lambda: rows.at(3, 2), lambda: rows.put(3, 2, 9)):
            deed()
            ahead = self.told(rows)
            other = rows.copied()
            self.assertIs(other.__class__, self.kind)
            self.assertIsNot(other, rows)
            self.assertEqual(self.told(other), ahead)
            self.unchanged(rows, ahead)

    def test_each_goes_its_own_way(self):
        rows = self.made([1, 2, 3], [(0, 0, 4), (1, 1, 5), (2, 0, 6)])
        rows.row(1)
        ahead = self.told(rows)
        other = rows.copied()
        self.assertEqual(other.put_all(3, [(2, 7), (1, 8)]), [4, 5])
        other.let_go(1)
        other.let_go(3)
        other.row(0)
        self.unchanged(rows, ahead)
        behind = self.told(other)
        self.assertEqual(rows.put(3, 2, -1), 4)
        rows.let_go(0)
        rows.row(2)
        self.assertEqual(self.told(other), behind)
        self.assertEqual(rows.row(4), [6, 5, -1])
        self.assertEqual(other.row(4), [6, 5, 7])
        self.assertEqual(other.row(0), [1, 2, 3])
        need_refusal(self, NoMake, {"found": 0}, rows.row, 0)
        need_refusal(self, NoMake, {"found": 1}, other.row, 1)

    def test_steps_of_copies_go_their_own_way(self):
        rows = self.made([1, 2, 3], [(0, 0, 4), (1, 1, 5), (2, 0, 6)])
        rows.row(0)
        steps = rows.steps()
        other = rows.copied()
        self.assertEqual(other.steps(), steps)
        other.row(3)
        other.put(3, 0, 0)
        self.assertGreater(other.steps(), steps)
        self.assertEqual(rows.steps(), steps)
        again = rows.copied()
        rows.row(3)
        rows.put(3, 0, 0)
        self.assertEqual(rows.steps(), other.steps())
        self.assertEqual(again.steps(), steps)

    def test_a_copy_of_a_copy_and_what_it_refuses(self):
        rows = self.made([1, 2], [(at, at % 2, at) for at in range(62)])
        rows.let_go(30)
        other = rows.copied().copied()
        need_refusal(self, NoMake, {"found": 30}, other.row, 30)
        self.assertEqual(other.put(62, 0, 5), 63)
        need_too_many(self, 65, other.put, 63, 0, 5)
        self.assertEqual(rows.put(62, 0, 6), 63)
        self.assertEqual((rows.at(63, 0), other.at(63, 0)), (6, 5))
        alone = self.kind([1]).copied()
        need_refusal(self, Alone, {"found": 0}, alone.let_go, 0)
        need_refusal(self, NoPlace, {"found": 1}, alone.at, 0, 1)


class ScriptTests:
    """Long scripts of deeds, told beside the book of the way."""

    def test_long_scripts(self):
        for beginning in range(30):
            draws, book = script(beginning, self.book, self.lines)
            rows = self.kind(book.rows[0])
            for count in range(90):
                name, arguments = some_deed(draws, book, self.lines)
                self.assertEqual(getattr(rows, name)(*arguments), done(book, name, arguments), (beginning, count, name))
                self.assertEqual((rows.steps(), rows.room()), (book.steps, book.room()))
                self.assertEqual(self.own_told(rows), self.own_of_book(book))
                if count % 15 == 0:
                    self.check(rows, book)
            self.check(rows, book)
            self.check_writers(rows, book)

    def test_scripts_that_go_on_with_copies(self):
        for beginning in range(100, 112):
            draws, book = script(beginning, self.book, self.lines)
            rows = self.kind(book.rows[0])
            for _ in range(8):
                other = rows.copied()
                other_book = copy.deepcopy(book)
                for made, made_book in ((rows, book), (other, other_book)):
                    for _ in range(6):
                        name, arguments = some_deed(draws, made_book, self.lines)
                        self.assertEqual(getattr(made, name)(*arguments), done(made_book, name, arguments))
                self.check(rows, book)
                self.check(other, other_book)
                if draws.below(2):
                    rows, book = other, other_book

    def test_refusals_in_between_change_nothing(self):
        for beginning in range(200, 206):
            draws, book = script(beginning, self.book, self.lines)
            rows = self.kind(book.rows[0])
            for _ in range(25):
                name, arguments = some_deed(draws, book, self.lines)
                self.assertEqual(getattr(rows, name)(*arguments), done(book, name, arguments))
                gone = [make for make in range(book.many()) if make not in book.kept]
                for thing in gone + [book.many(), -1, True, None, GREAT]:
                    need_refusal(self, NoMake, {"found": thing}, rows.put, thing, 0, 0)
                    need_refusal(self, NoMake, {"found": thing}, rows.let_go, thing)
                    need_refusal(self, NoMake, {"found": thing}, rows.row, thing)
                self.check(rows, book)


class AllTests(MakingTests, PuttingTests, AskingTests, LettingGoTests, CopyingTests, ScriptTests, WayCase):
    """All tests of a way; a test case of each way stands under this."""


def range_row(size):
    """Worths that are all unlike."""
    return [100 + at for at in range(size)]
