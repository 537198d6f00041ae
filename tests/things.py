"""Things that are handed in by several tests, and how a refusal is looked at."""

from makeskept.desk import Desk
from makeskept.errors import MakesError, NoWay, TooMany
from makeskept.halves import Parts
from makeskept.leaps import LeapTree
from makeskept.order import Order
from makeskept.plain import Plain
from makeskept.tour import Tour
from makeskept.tree import MakeTree

GREAT = 10 ** 39


def no_numbers():
    """Things that are no whole numbers at all, new ones each time."""
    return [
        True, False, None, "", "0", "1", "-1", "a text", "two\nlines",
        [], [0], [1], (), (0,), (1, 2), {}, {0: 1}, [[0], (1, [2])], MakeTree(), LeapTree(),
    ]


def no_makes(many):
    """Things that are no numbers of a make where there are so many, new ones each time."""
    return [many, many + 1, 64, 65, -1, -many, GREAT, -GREAT] + no_numbers()


def no_steps(depth):
    """Things that are no numbers of steps where a make has this depth, new ones each time."""
    return [depth + 1, depth + 2, 64, -1, -2, GREAT, -GREAT] + no_numbers()


def need_refusal(case, error, fields, call, *arguments):
    """The call is refused with just this error, whose fields are the very things."""
    with case.assertRaises(MakesError) as caught:
        call(*arguments)
    case.assertIs(caught.exception.__class__, error)
    for name, thing in fields.items():
        case.assertIs(getattr(caught.exception, name), thing, name)


def need_too_many(case, count, call, *arguments):
    """The call is refused with TooMany of this count."""
    with case.assertRaises(MakesError) as caught:
        call(*arguments)
    case.assertIs(caught.exception.__class__, TooMany)
    case.assertIs(caught.exception.count.__class__, int)
    case.assertEqual(caught.exception.count, count)


def no_marks(marks):
    """Things that are no numbers of a mark that stands, where these do and no greater one was given."""
    given = max(marks) + 1
    gone = [mark for mark in range(given) if mark not in marks]
    return gone + [given, given + 1, 200, 201, 1024, -1, -2, GREAT, -GREAT] + no_numbers()


def no_worths():
    """Things that are no worths, new ones each time."""
    return [10 ** 30, -10 ** 30, 10 ** 31 - 1, GREAT, -GREAT] + no_numbers()


def no_places(size):
    """Things that are no places of a row that has so many."""
    return [size, size + 1, 16, 17, -1, -size, GREAT, -GREAT] + no_numbers()


def no_stretches(size):
    """Pairs that are no stretches of a row that has so many places."""
    pairs = [(0, 0), (1, 1), (1, 0), (size, 0), (size, size), (size - 1, size - 1), (0, size + 1), (size, size + 1)]
    pairs += [(-1, 1), (-1, size), (-1, 0), (-2, -1), (0, -1), (size - 1, size + 1), (-size, size)]
    pairs += [(0, GREAT), (-GREAT, size), (GREAT, GREAT), (GREAT, 0), (0, 17), (16, 17), (17, 18), (GREAT, GREAT + 1)]
    for thing in no_numbers():
        pairs += [(thing, size), (0, thing), (thing, thing), (thing, -1), (size + 1, thing)]
    return pairs


def no_rows():
    """Things that are no worths of a row, new ones each time."""
    things = [[], (), [0] * 17, (0,) * 17, list(range(40)), [True], [0, False], (None,), ["1"], ("1", 2), [[1]]]
    things += [((1,),), [1, 10 ** 30], (-10 ** 30, 0), [0] * 15 + [None], (True,) * 16, [GREAT], [0, [0]], [{}]]
    things += [0, 1, 5, -1, 16, GREAT, "12", "1 2", {1: 2}, {0: 0, 1: 1}, [MakeTree()], ((),), [()]]
    return things + [thing for thing in no_numbers() if not isinstance(thing, (list, tuple)) or thing in ([], ())]


def no_changes(size):
    """Things that are no changes of a row that has so many places, new ones each time."""
    things = [[(0,)], [()], [(0, 1, 2)], [[0, 1]], ([0, 1],), [(size, 1)], [(-1, 1)], ((size, 1),), [(16, 1)]]
    things += [[(True, 1)], [(False, 1)], [(0, True)], [(0, 10 ** 30)], [(0, -10 ** 30)], [(0, None)], [(None, 1)]]
    things += [[("0", 1)], [(0, "1")], [([0], 1)], [(0, [1])], [(0, 1)] * 21, ((0, 1),) * 21, [(0, 1)] * 64]
    things += [[(0, 1), (size, 1)], [(0, 1), None], [(0, 1), [0, 2]], [(size, 1), (0, 1)], (0, 1), [0, 1], [[]]]
    things += [0, 1, 2, -1, GREAT, "01", "0 1", {0: 1}, {(0, 1): 1}, [(GREAT, 0)], [(0, 1)] * 20 + [(size, 0)]]
    return things + [thing for thing in no_numbers() if not isinstance(thing, (list, tuple)) or thing]


def no_ways():
    """Things that are no rows of a way, new ones each time."""
    rows = Plain([5, -7])
    things = [0, 1, GREAT, -GREAT, "plain", "turned", "size 1\n0 : 4", [5, -7], (5, -7), [rows], (rows,)]
    things += [{"rows": rows}, Order(), Tour(), Parts(), Desk(), NoWay(rows), rows.tree(), "x" * 40000, [[[[[rows]]]]]]
    return things + no_numbers()


def no_words():
    """Things that are no words of a way, new ones each time."""
    things = [thing for thing in no_ways() if thing not in ("plain", "turned")]
    things += ["", " ", "Plain", "PLAIN", "plain ", " plain", "plain\n", "plai", "plainn", "line", "box", "boxes"]
    things += ["copy", "rows", "none", "whole", "0", ["plain"], ("plain",), {"plain": 1}, ["plain", "turned"]]
    return things + ["plain turned", "plain, turned"]


def no_partings(size):
    """Things that are no parting changes of a row that has so many places, new ones each time."""
    last = size - 1
    things = [[(0, 1)], [()], [(0, 1, 2, 3)], [[0, 1, 2]], ([0, 1, 2],), [(size, 1, 2)], [(-1, 1, 2)], (0, 1, 2)]
    things += [[0, 1, 2], [(0, 1, 1)], ((0, -7, -7),), [(last, 0, 0)], [(0, 1, 2), (0, 1, 2)], [(0, 1, 2), (0, 2, 3)]]
    things += [[[]], [None], [(True, 1, 2)], [(False, 1, 2)], [(0, True, 2)], [(0, 0, True)], [(0, False, 1)]]
    things += [[(0, 1, False)], [(0, 10 ** 30, 1)], [(0, 1, -10 ** 30)], [(0, None, 1)], [(0, 1, None)]]
    things += [[(None, 1, 2)], [("0", 1, 2)], [(0, "1", 2)], [(0, 1, "2")], [([0], 1, 2)], [(0, [1], 2)]]
    things += [[(0, 1, (2,))], [(GREAT, 1, 2)], [(0, 1, 2), (size, 1, 2)], [(0, 1, 2), None], [(0, 1, 2), [1, 1, 2]]]
    things += [[(0, 1, 2)] * 21, [(16, 1, 2)], 0, 1, 2, -1, GREAT, "012", {0: 1}, {(0, 1, 2): 1}, {0: (0, 1, 2)}]
    things += [[{}], [((0, 1, 2),)], [[(0, 1, 2)]], [(at, 1, 2) for at in range(size + 1)]]
    things += [[(at - 1, 1, 2) for at in range(size)]]
    if size > 1:
        things += [[(1, 1, 2), (0, 1, 2)], ((last, 1, 2), (0, 1, 2)), [(0, 1, 2), (1, 5, 5)]]
        things += [[(0, 1, 2), (1, 3, 4), (1, 4, 3)], [(at, 1, 2) for at in reversed(range(size))]]
        things += [[(0, 1, 2), (last, 1, True)], [(0, 1, 2), (1, 1, 2), [0, 1]]]
    return things + [thing for thing in no_numbers() if not isinstance(thing, (list, tuple)) or thing]
