"""[65] to [68] The copied way, with [40] to [45] as of each way."""

import unittest

from makeskept.copied import Copied
from makeskept.errors import Alone, NoMake, NoPart, NoStretch
from tests.books import done, script, some_deed
from tests.things import GREAT, need_refusal, need_too_many, no_makes, no_numbers, no_stretches
from tests.way_books import CopiedBook, stretch_of
from tests.ways import AllTests


class CopiedTest(AllTests, unittest.TestCase):
    """What each way tells, of the copied way, with its roots and parts."""

    kind = Copied
    word = "copied"
    book = CopiedBook

    def own_told(self, rows):
        roots = {make: rows.root(make) for make in rows.makes()}
        of_makes = {make: rows.parts_of(make) for make in rows.makes()}
        numbers = sorted({number for numbers in of_makes.values() for number in numbers})
        return roots, of_makes, {number: (rows.part(number), rows.pointers(number)) for number in numbers}

    def own_of_book(self, book):
        roots = {make: book.roots[make] for make in book.kept}
        of_makes = {make: book.below(book.roots[make]) for make in book.kept}
        many = book.pointers()
        return roots, of_makes, {number: (book.parts[number], many[number]) for number in book.kept_parts}

    def test_scripts_with_parts_of_stretches_and_shared_parts(self):
        for beginning in range(300, 318):
            draws, book = script(beginning, self.book, False)
            rows = self.kind(book.rows[0])
            for _ in range(40):
                name, arguments = some_deed(draws, book, False)
                self.assertEqual(getattr(rows, name)(*arguments), done(book, name, arguments))
                one, other = draws.among(book.kept), draws.among(book.kept)
                both = set(book.below(book.roots[one])) & set(book.below(book.roots[other]))
                self.assertEqual(rows.shared(one, other), sorted(both))
                self.check_stretches(rows, book, one)
                self.check_like_parts(rows, book, one, other)
                self.check_no_parts(rows, book)
            self.check(rows, book)

    def check_stretches(self, rows, book, make):
        """The part of each stretch, NoStretch where there is none."""
        by_stretch = {stretch_of(book.parts[number]): number for number in book.below(book.roots[make])}
        for low in range(-1, book.size() + 2):
            for high in range(-1, book.size() + 2):
                if (low, high) in by_stretch:
                    self.assertEqual(rows.part_at(make, low, high), by_stretch[(low, high)])
                else:
                    need_refusal(self, NoStretch, {"low": low, "high": high}, rows.part_at, make, low, high)

    def check_like_parts(self, rows, book, one, other):
        """[68] Where parts of two makes are one and the same."""
        for number in book.below(book.roots[one]):
            low, high = stretch_of(book.parts[number])
            last = [max(book.writer(make, place) for place in range(low, high)) for make in (one, other)]
            self.assertIs(rows.part_at(other, low, high) == number, last[0] == last[1])

    def check_no_parts(self, rows, book):
        for number in range(len(book.parts) + 1):
            if number not in book.kept_parts:
                need_refusal(self, NoPart, {"found": number}, rows.part, number)
                need_refusal(self, NoPart, {"found": number}, rows.pointers, number)


class RootsAndPartsTest(unittest.TestCase):
    """[65], [66] Roots, parts and what points to them."""

    def test_the_first_row_is_laid_in_a_store_of_the_rows_own(self):
        for size in range(1, 17):
            worths = list(range(10, 10 + size))
            rows = Copied(worths)
            self.assertEqual(rows.root(0), 2 * size - 2)
            self.assertEqual(rows.room(), 2 * size - 1)
            self.assertEqual(rows.steps(), 0)
            self.assertEqual(rows.pointers(2 * size - 2), 1)
            self.assertEqual(sorted(rows.parts_of(0)), list(range(2 * size - 1)))
            again = Copied(worths)
            again.put(0, 0, 1)
            self.assertEqual(rows.room(), 2 * size - 1)

    def test_by_hand(self):
        rows = Copied([7, 8, 9])
        laid = [("leaf", 0, 7), ("leaf", 1, 8), ("leaf", 2, 9), ("fork", 1, 3, 1, 2), ("fork", 0, 3, 0, 3)]
        self.assertEqual([rows.part(number) for number in range(5)], laid)
        self.assertEqual(rows.parts_of(0), [4, 0, 3, 1, 2])
        self.assertEqual(rows.put(0, 1, 5), 1)
        self.assertEqual(rows.root(1), 7)
        self.assertEqual(rows.parts_of(1), [7, 0, 6, 5, 2])
        self.assertEqual(rows.shared(0, 1), [0, 2])
        self.assertEqual(rows.put(1, 0, 6), 2)
        self.assertEqual(rows.parts_of(2), [9, 8, 6, 5, 2])
        self.assertEqual([rows.pointers(number) for number in range(10)], [2, 1, 2, 1, 1, 1, 2, 1, 1, 1])
        self.assertEqual(rows.shared(1, 2), [2, 5, 6])
        self.assertEqual(rows.shared(0, 2), [2])
        self.assertEqual(rows.shared(2, 2), [2, 5, 6, 8, 9])
        self.assertEqual(rows.room(), 10)

    def test_a_worth_that_stands_there_already_makes_new_parts(self):
        rows = Copied([7, 8])
        rows.put(0, 0, 7)
        self.assertEqual(rows.parts_of(1), [4, 3, 1])
        self.assertEqual(rows.shared(0, 1), [1])

    def test_what_is_no_make_is_refused_the_first_one_first(self):
        rows = Copied([7, 8, 9])
        rows.put_all(0, [(0, 1), (1, 2)])
        rows.let_go(1)
        for make in [1] + no_makes(3):
            need_refusal(self, NoMake, {"found": make}, rows.root, make)
            need_refusal(self, NoMake, {"found": make}, rows.parts_of, make)
            need_refusal(self, NoMake, {"found": make}, rows.part_at, make, 0, 3)
            need_refusal(self, NoMake, {"found": make}, rows.part_at, make, 0, None)
            for other in [0, 2, 1] + no_makes(3):
                need_refusal(self, NoMake, {"found": make}, rows.shared, make, other)
            need_refusal(self, NoMake, {"found": make}, rows.shared, 0, make)

    def test_what_is_no_kept_part_is_refused(self):
        rows = Copied([7, 8, 9])
        rows.put(0, 1, 5)
        rows.let_go(0)
        self.assertEqual([rows.part(number)[0] for number in (0, 2, 5, 6, 7)], ["leaf", "leaf", "leaf", "fork", "fork"])
        for number in [1, 3, 4, 8, 9, -1, GREAT, -GREAT] + no_numbers():
            need_refusal(self, NoPart, {"found": number}, rows.part, number)
            need_refusal(self, NoPart, {"found": number}, rows.pointers, number)

    def test_parts_of_stretches(self):
        rows = Copied(list(range(5)))
        stretches = [(0, 1), (1, 2), (0, 2), (2, 3), (3, 4), (4, 5), (3, 5), (2, 5), (0, 5)]
        self.assertEqual([rows.part_at(0, low, high) for low, high in stretches], list(range(9)))
        others = [(0, 3), (0, 4), (1, 3), (1, 4), (1, 5), (2, 4), (0, 6), (5, 6), (4, 6)]
        for low, high in others + no_stretches(5):
            need_refusal(self, NoStretch, {"low": low, "high": high}, rows.part_at, 0, low, high)

    def test_a_truth_is_no_number_of_a_stretch(self):
        for size in (1, 2):
            rows = Copied([5] * size)
            for low, high in ((False, 1), (0, True), (False, True), (True, 2), (False, 2), (True, True)):
                need_refusal(self, NoStretch, {"low": low, "high": high}, rows.part_at, 0, low, high)
        for thing in no_numbers():
            for low, high in ((thing, 2), (0, thing), (thing, thing)):
                need_refusal(self, NoStretch, {"low": low, "high": high}, rows.part_at, 0, low, high)

    def test_lists_are_new_ones_each_time(self):
        rows = Copied([7, 8])
        rows.put(0, 0, 1)
        for ask in (lambda: rows.parts_of(1), lambda: rows.shared(0, 1)):
            numbers = ask()
            self.assertIs(numbers.__class__, list)
            numbers.append(77)
            self.assertEqual(ask(), numbers[:-1])
        self.assertEqual(rows.row(1), [1, 8])

    def test_kinds_of_what_is_told(self):
        rows = Copied([7, 8])
        for number in (rows.root(0), rows.pointers(2), rows.part_at(0, 0, 1)):
            self.assertIs(number.__class__, int)
        self.assertIs(rows.part(2).__class__, tuple)
        self.assertIs(rows.part(0).__class__, tuple)


class StepsAndRoomTest(unittest.TestCase):
    """[67] Room and steps."""

    def grown(self, rows, ask):
        """How many steps the ask counts."""
        ahead = rows.steps()
        ask()
        return rows.steps() - ahead

    def test_a_put_counts_the_parts_that_are_made(self):
        rows = Copied([7, 8, 9])
        self.assertEqual([self.grown(rows, lambda: rows.put(0, place, 5)) for place in range(3)], [2, 3, 3])
        self.assertEqual(rows.room(), 13)
        self.assertEqual(self.grown(rows, lambda: rows.put_all(1, [(0, 1), (2, 1), (2, 1)])), 8)
        self.assertEqual(rows.room(), 21)
        self.assertEqual(self.grown(Copied([7]), lambda: None), 0)
        alone = Copied([7])
        self.assertEqual(self.grown(alone, lambda: alone.put(0, 0, 8)), 1)

    def test_places_stretches_and_rows(self):
        rows = Copied(list(range(5)))
        self.assertEqual([self.grown(rows, lambda: rows.at(0, place)) for place in range(5)], [3, 3, 3, 4, 4])
        self.assertEqual(self.grown(rows, lambda: rows.row(0)), 9)
        looks = {(0, 5): 9, (0, 2): 4, (2, 5): 6, (1, 3): 5, (3, 5): 5, (0, 3): 6, (1, 4): 7, (4, 5): 4, (0, 1): 3}
        for (low, high), many in looks.items():
            self.assertEqual(self.grown(rows, lambda: rows.stretch(0, low, high)), many, (low, high))
        self.assertEqual(self.grown(rows, lambda: rows.row(0)), 9)

    def test_sixteen_places(self):
        rows = Copied([0] * 16)
        self.assertEqual(self.grown(rows, lambda: rows.put(0, 9, 1)), 5)
        self.assertEqual(self.grown(rows, lambda: rows.at(1, 9)), 5)
        self.assertEqual(self.grown(rows, lambda: rows.row(1)), 31)
        self.assertEqual(self.grown(rows, lambda: rows.stretch(1, 7, 9)), 9)
        self.assertEqual(self.grown(rows, lambda: rows.stretch(1, 8, 16)), 16)

    def test_what_is_told_of_parts_counts_none(self):
        rows = Copied([7, 8, 9])
        rows.put(0, 1, 5)
        asks = (lambda: rows.root(1), lambda: rows.part(7), lambda: rows.pointers(0), lambda: rows.parts_of(1),
                lambda: rows.part_at(1, 1, 3), lambda: rows.shared(0, 1), lambda: rows.let_go(0))
        for ask in asks:
            self.assertEqual(self.grown(rows, ask), 0)

    def test_what_is_refused_counts_none_and_makes_no_part(self):
        rows = Copied([7, 8, 9])
        for make in range(63):
            rows.put(make, make % 3, make)
        ahead = (rows.steps(), rows.room())
        need_too_many(self, 65, rows.put, 63, 0, 1)
        need_too_many(self, 66, rows.put_all, 63, [(0, 1), (1, 1)])
        need_refusal(self, NoMake, {"found": 64}, rows.put, 64, 0, 1)
        need_refusal(self, NoStretch, {"low": 2, "high": 1}, rows.stretch, 63, 2, 1)
        self.assertEqual((rows.steps(), rows.room()), ahead)


class LettingGoTest(unittest.TestCase):
    """[65] What is freed when makes are let go."""

    def made(self):
        rows = Copied([7, 8, 9])
        rows.put(0, 1, 5)
        rows.put(1, 0, 6)
        return rows

    def test_in_several_orders(self):
        rows = self.made()
        self.assertEqual([rows.let_go(0), rows.let_go(1)], [[1, 3, 4], [0, 7]])
        self.assertEqual(rows.room(), 5)
        rows = self.made()
        self.assertEqual([rows.let_go(2), rows.let_go(1)], [[8, 9], [5, 6, 7]])
        self.assertEqual(rows.parts_of(0), [4, 0, 3, 1, 2])
        rows = self.made()
        self.assertEqual([rows.let_go(1), rows.let_go(2)], [[7], [5, 6, 8, 9]])
        need_refusal(self, Alone, {"found": 0}, rows.let_go, 0)
        self.assertEqual([rows.pointers(number) for number in range(5)], [1, 1, 1, 1, 1])

    def test_numbers_go_on_behind_what_is_freed(self):
        rows = self.made()
        rows.let_go(2)
        self.assertEqual(rows.put(1, 0, 4), 3)
        self.assertEqual(rows.root(3), 11)
        need_refusal(self, NoPart, {"found": 9}, rows.part, 9)

    def test_copies_have_the_same_parts_and_go_their_own_way(self):
        rows = self.made()
        rows.let_go(1)
        other = rows.copied()
        self.assertEqual([other.root(0), other.root(2)], [4, 9])
        self.assertEqual(other.let_go(0), [0, 1, 3, 4])
        self.assertEqual(rows.parts_of(0), [4, 0, 3, 1, 2])
        self.assertEqual([rows.pointers(number) for number in (0, 2, 4)], [1, 2, 1])
        self.assertEqual(other.put(2, 2, 1), 3)
        self.assertEqual(rows.put(0, 0, 2), 3)
        self.assertEqual((other.root(3), rows.root(3)), (12, 11))
        self.assertEqual((other.part(10), rows.part(10)), (("leaf", 2, 1), ("leaf", 0, 2)))
        self.assertEqual((other.row(3), rows.row(3)), ([6, 5, 1], [2, 8, 9]))


class InterfaceTest(unittest.TestCase):
    def test_what_the_interface_lists_is_defined_in_the_class_and_the_file(self):
        self.assertEqual(Copied.__module__, "makeskept.copied")
        for name in "root part pointers parts_of part_at shared".split():
            self.assertIn(name, vars(Copied))


if __name__ == "__main__":
    unittest.main()
