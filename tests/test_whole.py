"""[1] to [9] Over the whole program: the five ways beside each other, going over and read back in the midst of all."""

import copy
import unittest

from makeskept.carrying import carried, put_on, turned_about
from makeskept.errors import Clash, Elder, MakesError, NoMake
from makeskept.maketext import make_text, read_makes
from makeskept.over import gone_over
from makeskept.parting import is_parting, parted, parted_by_parts, shows_parted, touched
from makeskept.searching import alike, first_unlike, line_of_place, stood, worths_of
from tests.books import Book, PlainBook, done, script, some_deed
from tests.draws import Draws
from tests.five import KINDS, WORDS, beside, is_line, made_again, makes_of, nearest, put_beside
from tests.shapes import shapes
from tests.test_beside_plain import any_deed, told
from tests.way_books import BoxedBook, CopiedBook, LinedBook, TurnedBook

BOOKS = {"plain": PlainBook, "turned": TurnedBook, "copied": CopiedBook, "lined": LinedBook, "boxed": BoxedBook}


class InTheMidstTest(unittest.TestCase):
    """[9] Rows that go over and are read back, with all that their way tells from then on."""

    def check(self, rows, book, word):
        self.assertEqual((rows.way(), rows.steps(), rows.room()), (word, book.steps, book.room()))
        self.assertEqual(rows.makes(), sorted(book.kept))
        other = rows.copied()
        for make in book.kept:
            self.assertEqual(other.row(make), book.rows[make])

    def put_what_parts(self, draws, rows, book):
        """What parts two makes is put on the one, and makes the row of the other; or is refused."""
        one, other = draws.among(book.kept), draws.among(book.kept)
        both, changes = parted(rows, one, other)
        self.assertEqual(both, nearest(book, one, other))
        try:
            made = put_on(rows, one, changes)
        except MakesError:
            self.assertTrue(rows.way() == "lined" and one != book.many() - 1 or book.many() + len(changes) > 64)
            return
        numbers = book.put_all(one, [(place, behind) for place, _, behind in changes])
        self.assertEqual(made, (numbers or [one])[-1])
        self.assertEqual(rows.row(made), book.rows[other])

    def run_over(self, beginning, lines):
        draws, book = script(beginning, PlainBook, lines)
        word = "plain"
        rows = KINDS[word](book.rows[0])
        for count in range(7):
            for _ in range(12):
                name, arguments = some_deed(draws, book, lines)
                found = getattr(rows, name)(*arguments)
                self.assertEqual(found, done(book, name, arguments), (beginning, word, name, arguments))
                self.assertEqual((rows.steps(), rows.room()), (book.steps, book.room()))
            self.check(rows, book, word)
            # Its asks count steps that are not promised, so the row goes over right behind it.
            self.put_what_parts(draws, rows, book)
            words = [word for word in WORDS if word != "lined" or is_line(book)]
            word = draws.among(words)
            rows = read_makes(make_text(rows), word) if count % 2 else gone_over(rows, word)
            book = made_again(book, BOOKS[word])
            self.check(rows, book, word)

    def test_trees(self):
        for beginning in range(1000, 1030):
            self.run_over(beginning, False)

    def test_lines(self):
        for beginning in range(1030, 1050):
            self.run_over(beginning, True)


class FiveBesideTest(unittest.TestCase):
    """The five ways beside each other with the same deeds, good and bad ones."""

    def all_told(self, rows):
        """All that may be told of a row's makes by the later stages, the same in each way."""
        makes = rows.makes()
        places = range(rows.size())
        found = [make_text(rows), alike(rows), [list(worths_of(rows, place).items()) for place in places]]
        for one in makes[::3]:
            for other in makes[1::4]:
                found += [touched(rows, one, other), parted(rows, one, other), first_unlike(rows, one, other)]
            found += [line_of_place(rows, one, place) for place in places]
            found += [stood(rows, place, rows.at(one, place)) for place in places]
        return found

    def run_beside(self, beginning, lines):
        draws = Draws(beginning)
        ways = beside([(at * 7 - 3) % 5 for at in range(1 + beginning % 6)], lines)
        for count in range(70):
            name, arguments = any_deed(draws, ways["plain"], lines)
            if name == "place_of":
                arguments = arguments[:1]
            ahead = copy.deepcopy([thing for thing in arguments if isinstance(thing, (list, tuple))])
            found = {word: told(getattr(rows, name), arguments) for word, rows in ways.items()}
            self.assertEqual([thing for thing in arguments if isinstance(thing, (list, tuple))], ahead)
            if lines and found["lined"][0] is Elder:
                # All ways go on as before the deed that the lined one refuses.
                ways = {word: gone_over(ways["lined"], word) for word in ways}
                continue
            for word in ways:
                same = name != "let_go" or found[word][0] != "told" or word in ("lined", "boxed")
                self.assertEqual(found[word] if same else "told", found["plain"] if same else found["plain"][0], name)
            if count % 23 == 22:
                all_told = [self.all_told(rows) for rows in ways.values()]
                self.assertEqual(all_told, [all_told[0]] * len(ways))

    def test_trees(self):
        for beginning in range(1100, 1115):
            self.run_beside(beginning, False)

    def test_lines(self):
        for beginning in range(1120, 1130):
            self.run_beside(beginning, True)


class FreedTest(unittest.TestCase):
    """[9] What is freed at each letting go, in any order, by each way, also behind going over and reading."""

    def test_every_shape_in_several_orders(self):
        for owns in shapes().values():
            for stride in (1, 11, 37, 66):
                lines = owns == list(range(len(owns)))
                puts = [(own, at * at % 3, at % 4) for at, own in enumerate(owns)]
                many = len(owns) + 1
                order = sorted(range(many), key=lambda make: (make * stride + 5) % 67)[:-1]
                for word, rows in put_beside([1, 2, 3], puts, lines=lines).items():
                    book = BOOKS[word]([1, 2, 3])
                    for deed in puts:
                        book.put(*deed)
                    rows, book = gone_over(rows, word), made_again(book, BOOKS[word])
                    for at, make in enumerate(order):
                        self.assertEqual(rows.let_go(make), book.let_go(make), (word, make))
                        if at == many // 2:
                            rows, book = read_makes(make_text(rows), word), made_again(book, BOOKS[word])
                    self.assertEqual((rows.room(), rows.steps()), (book.room(), book.steps))
                    self.assertEqual(rows.row(rows.makes()[0]), book.rows[book.kept[0]])


class PromiseTest(unittest.TestCase):
    """[9] By hand."""

    def test_each_kept_make_tells_its_worths_whatever_was_put_on_others(self):
        for rows in put_beside([1, 2], [(0, 0, 5), (0, 1, 6), (1, 1, 7), (2, 0, 8), (3, 0, 9)]).values():
            told_first = {make: rows.row(make) for make in rows.makes()}
            self.assertEqual(told_first, {0: [1, 2], 1: [5, 2], 2: [1, 6], 3: [5, 7], 4: [8, 6], 5: [9, 7]})
            for make in (1, 0, 3):
                rows.put(make, 0, 77)
                rows.let_go(make)
                del told_first[make]
                self.assertEqual({make: rows.row(make) for make in told_first}, told_first)

    def test_a_row_that_has_all_in_it(self):
        for word, rows in put_beside([1, 2, 3], [(0, 0, 5), (0, 1, 6), (1, 2, 7)]).items():
            self.assertEqual(carried(rows, 2, 3), 5)
            self.assertEqual(rows.row(5), [5, 6, 7])
            both, changes = parted(rows, 5, 3)
            self.assertEqual((both, changes), (0, [(1, 6, 2)]))
            self.assertTrue(shows_parted(rows, 5, 3, (both, changes)) and is_parting(changes, 3))
            self.assertEqual(put_on(rows, 5, changes), 6)
            self.assertEqual(put_on(rows, 6, turned_about(changes)), 7)
            self.assertEqual(alike(rows), [[0], [1], [2], [3, 6], [4], [5, 7]])
            with self.assertRaises(Clash):
                put_on(rows, 6, changes)
            rows.let_go(0)
            with self.assertRaises(NoMake):
                carried(rows, 2, 3)
            over = gone_over(rows, "copied")
            self.assertEqual(parted_by_parts(over, 5, 3)[0], changes)
            self.assertEqual(makes_of(read_makes(make_text(over), word)), makes_of(rows))

    def test_copies_and_rows_that_went_over_have_nothing_in_common(self):
        for rows in put_beside([1, 2], [(0, 0, 5), (1, 1, 6)], lines=True).values():
            others = [rows.copied()] + [gone_over(rows, word) for word in WORDS]
            others += [read_makes(make_text(rows), word) for word in WORDS]
            for at, other in enumerate(others):
                self.assertEqual(other.put(2, 0, at), 3)
                other.let_go(1)
            self.assertEqual([other.row(3) for other in others], [[at, 6] for at in range(len(others))])
            self.assertEqual((rows.makes(), rows.row(2)), ([0, 1, 2], [5, 6]))

    def test_the_book_without_a_way_tells_the_same(self):
        for beginning in range(1140, 1150):
            draws, book = script(beginning, Book, False)
            ways = beside(book.rows[0])
            for _ in range(50):
                name, arguments = some_deed(draws, book, False)
                expected = done(book, name, arguments)
                for rows in ways.values():
                    found = getattr(rows, name)(*arguments)
                    self.assertEqual(found if name != "let_go" else [], expected)


if __name__ == "__main__":
    unittest.main()
