"""[6] The refusals."""

import unittest

from makeskept import errors
from makeskept.errors import MakesError
from tests.things import GREAT, no_numbers

FIELDS = {
    "NoRow": ("found",),
    "NoWorth": ("found",),
    "NoPlace": ("found",),
    "NoStretch": ("low", "high"),
    "NoMake": ("found",),
    "NoMark": ("found",),
    "NoPart": ("found",),
    "NoNumber": ("found",),
    "NoWay": ("found",),
    "NoChanges": ("found",),
    "NoText": ("found",),
    "NoLine": ("found",),
    "NoName": ("found",),
    "TooMany": ("count",),
    "Alone": ("found",),
    "Elder": ("found",),
    "Clash": ("places",),
}


def things():
    """Any things, new ones each time."""
    return [0, 65, -1, GREAT, -GREAT, "x" * 40000, [1, [2, {"a": None}]], {"b": [True]}, MakesError("x")] + no_numbers()


class MakesErrorTest(unittest.TestCase):
    def test_stands_straight_under_value_error(self):
        self.assertEqual(MakesError.__bases__, (ValueError,))

    def test_keeps_its_text(self):
        for text in ("", "a text", "two\nlines", "  blanks ", "{braces}", "x" * 40000):
            self.assertEqual(str(MakesError(text)), text)

    def test_is_raised_and_caught(self):
        with self.assertRaises(ValueError) as caught:
            raise MakesError("why")
        self.assertEqual(str(caught.exception), "why")


class RefusalsTest(unittest.TestCase):
    def test_there_are_seventeen(self):
        self.assertEqual(len(FIELDS), 17)

    def test_each_is_defined_in_the_file(self):
        for name in ("MakesError", *FIELDS):
            kind = getattr(errors, name)
            self.assertEqual((kind.__name__, kind.__module__), (name, "makeskept.errors"))

    def test_each_stands_straight_under_makes_error(self):
        for name in FIELDS:
            self.assertEqual(getattr(errors, name).__bases__, (MakesError,), name)

    def test_none_stands_under_another_one(self):
        for name in FIELDS:
            for other in FIELDS:
                under = issubclass(getattr(errors, name), getattr(errors, other))
                self.assertIs(under, name == other, (name, other))

    def test_each_is_caught_as_what_it_stands_under(self):
        for name, fields in FIELDS.items():
            for above in (MakesError, ValueError):
                with self.assertRaises(above):
                    raise getattr(errors, name)(*fields)

    def test_fields_are_the_very_things(self):
        for name, fields in FIELDS.items():
            for thing in things():
                refusal = getattr(errors, name)(*([thing] * len(fields)))
                for field in fields:
                    self.assertIs(getattr(refusal, field), thing, (name, field))

    def test_fields_are_in_their_order(self):
        for low in things():
            for high in things():
                refusal = errors.NoStretch(low, high)
                self.assertIs(refusal.low, low)
                self.assertIs(refusal.high, high)

    def test_what_is_handed_in_stays_as_it_was(self):
        for name, fields in FIELDS.items():
            thing = [1, [2], {"a": (3,)}]
            getattr(errors, name)(*([thing] * len(fields)))
            self.assertEqual(thing, [1, [2], {"a": (3,)}])

    def test_each_tells_a_text_whatever_the_things_are(self):
        for name, fields in FIELDS.items():
            for thing in things():
                self.assertIsInstance(str(getattr(errors, name)(*([thing] * len(fields)))), str)

    def test_each_is_made_of_as_many_fields_as_it_has(self):
        for name, fields in FIELDS.items():
            for many in (0, len(fields) + 1):
                with self.assertRaises(TypeError):
                    getattr(errors, name)(*([1] * many))

    def test_two_refusals_have_nothing_in_common_but_what_was_handed_in(self):
        for name, fields in FIELDS.items():
            one = getattr(errors, name)(*([1] * len(fields)))
            getattr(errors, name)(*([2] * len(fields)))
            for field in fields:
                self.assertEqual(getattr(one, field), 1)


if __name__ == "__main__":
    unittest.main()
