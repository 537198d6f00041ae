"""Things that are handed in by several tests, and how a refusal is looked at."""

from makeskept.errors import MakesError, TooMany
from makeskept.leaps import LeapTree
from makeskept.tree import MakeTree

GREAT = 10 ** 39


def no_numbers():
    """Things that are no whole numbers at all, new ones each time."""
    return [
        True, False, None, "", "0", "1", "-1", "a text", "two\nlines",
        [], [0], [1], (), (0,), (1, 2), {}, {0: 1}, [[0], (1, [2])], MakeTree(), LeapTree(),
    ]


def no_makes(many):
    """Things that are no numbers of a make where there are so many, new ones each time."""
    return [many, many + 1, 64, 65, -1, -many, GREAT, -GREAT] + no_numbers()


def no_steps(depth):
    """Things that are no numbers of steps where a make has this depth, new ones each time."""
    return [depth + 1, depth + 2, 64, -1, -2, GREAT, -GREAT] + no_numbers()


def need_refusal(case, error, fields, call, *arguments):
    """The call is refused with just this error, whose fields are the very things."""
    with case.assertRaises(MakesError) as caught:
        call(*arguments)
    case.assertIs(caught.exception.__class__, error)
    for name, thing in fields.items():
        case.assertIs(getattr(caught.exception, name), thing, name)


def need_too_many(case, count, call, *arguments):
    """The call is refused with TooMany of this count."""
    with case.assertRaises(MakesError) as caught:
        call(*arguments)
    case.assertIs(caught.exception.__class__, TooMany)
    case.assertIs(caught.exception.count.__class__, int)
    case.assertEqual(caught.exception.count, count)
