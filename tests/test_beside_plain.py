"""Each way beside a plain row with the same deeds, good and bad ones: the same makes, worths and refusals."""

import unittest

from makeskept.boxed import Boxed
from makeskept.copied import Copied
from makeskept.errors import Elder, MakesError, NoStretch
from makeskept.lined import Lined
from makeskept.plain import Plain
from makeskept.turned import Turned
from tests.books import some_row, some_worth
from tests.draws import Draws
from tests.things import no_changes, no_makes, no_places, no_stretches, no_worths

WAYS = (Turned, Copied, Lined, Boxed)


def told(call, arguments):
    """What a call tells, or its refusal with its fields."""
    try:
        return "told", call(*arguments)
    except NoStretch as refusal:
        return NoStretch, refusal.low, refusal.high
    except MakesError as refusal:
        fields = vars(refusal)
        return (refusal.__class__,) + tuple(fields[name] for name in sorted(fields))


def any_make(draws, rows, line):
    """A make of any kind, most often one to put on."""
    if draws.below(12) == 0:
        return draws.among(no_makes(rows.many()))
    if draws.below(10) == 0:
        return draws.below(rows.many())
    return rows.makes()[-1] if line or draws.below(2) else draws.among(rows.makes())


def any_deed(draws, rows, line):
    """The name of a method, and arguments of any kind."""
    make = any_make(draws, rows, line)
    size = rows.size()
    place = draws.among(no_places(size)) if draws.below(12) == 0 else draws.below(size)
    worth = draws.among(no_worths()) if draws.below(12) == 0 else some_worth(draws)
    kind = draws.below(12)
    if kind < 4:
        return "put", (make, place, worth)
    if kind < 5:
        changes = [(draws.below(size), some_worth(draws)) for _ in range(draws.below(5))]
        return "put_all", (make, draws.among(no_changes(size)) if draws.below(5) == 0 else changes)
    if kind < 6:
        return "let_go", (draws.among(rows.makes()) if draws.below(3) else make,)
    if kind < 8:
        return "at", (make, place)
    if kind < 9:
        return "row", (make,)
    if kind < 10:
        return draws.among(["writer", "place_of"]), (make, place)
    low = draws.below(size)
    stretch = draws.among(no_stretches(size)) if draws.below(4) == 0 else (low, low + 1 + draws.below(size - low))
    return "stretch", (make,) + stretch


class BesidePlainTest(unittest.TestCase):
    def same(self, rows, plain):
        """Both tell the same of all makes."""
        self.assertEqual((rows.size(), rows.many(), rows.makes()), (plain.size(), plain.many(), plain.makes()))
        trees = rows.tree(), plain.tree()
        for make in range(rows.many()):
            self.assertEqual(trees[0].line(make), trees[1].line(make))
            self.assertEqual(rows.place_of(make), plain.place_of(make))
            for place in range(rows.size()):
                self.assertEqual(rows.writer(make, place), plain.writer(make, place))
        for make in rows.makes():
            self.assertEqual(rows.row(make), plain.row(make))

    def run_beside(self, kind, beginning):
        draws = Draws(beginning)
        worths = some_row(draws, (1, 2, 4, 7, 16)[beginning % 5])
        rows = kind(worths)
        plain = Plain(worths)
        refused = 0
        for _ in range(150):
            name, arguments = any_deed(draws, rows, kind is Lined)
            if name == "place_of":
                arguments = arguments[:1]
            found = told(getattr(rows, name), arguments)
            if kind is Lined and found[0] is Elder:
                self.assertNotEqual(found[1], rows.many() - 1)
                self.assertIn(name, ("put", "put_all"))
                continue
            beside = told(getattr(plain, name), arguments)
            refused += found[0] != "told"
            if name == "let_go" and found[0] == "told" and kind not in (Lined, Boxed):
                self.assertEqual(beside[0], "told")
            else:
                self.assertEqual(found, beside, (kind, name, arguments))
        self.assertGreater(refused, 5)
        self.same(rows, plain)

    def test_turned(self):
        for beginning in range(25):
            self.run_beside(Turned, beginning)

    def test_copied(self):
        for beginning in range(25):
            self.run_beside(Copied, beginning)

    def test_lined(self):
        for beginning in range(25):
            self.run_beside(Lined, beginning)

    def test_boxed(self):
        for beginning in range(25):
            self.run_beside(Boxed, beginning)


class KindsOfWaysTest(unittest.TestCase):
    def test_no_way_stands_under_another_one(self):
        for one in WAYS + (Plain,):
            for other in WAYS + (Plain,):
                self.assertIs(issubclass(one, other), one is other)


if __name__ == "__main__":
    unittest.main()
