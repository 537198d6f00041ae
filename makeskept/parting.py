"""What parts two makes of a row: where it was written on the way between them, and where their worths are unlike."""

from makeskept.copied import Copied
from makeskept.errors import NoWay
from makeskept.halves import halves_of
from makeskept.kinds import is_whole, is_worth
from makeskept.rows import need_way


def touched(rows, one, other):
    """The places that the makes on the way between the two wrote, but for the nearest make of both; rising."""
    tree = _tree_for_two(rows, one, other)
    nearest = tree.nearest(one, other)
    return sorted({rows.place_of(make) for make in tree.way(one, other) if make != nearest})


def parted(rows, one, other):
    """The nearest make of both, and a list of tuples (place, before, behind) of the places where they are unlike."""
    nearest = _tree_for_two(rows, one, other).nearest(one, other)
    pairs = list(zip(rows.row(one), rows.row(other)))
    changes = [(place, before, behind) for place, (before, behind) in enumerate(pairs) if before != behind]
    return nearest, changes


def shows_parted(rows, one, other, thing):
    """Whether the thing is what parts the two makes, kind by kind."""
    nearest, changes = parted(rows, one, other)
    if not isinstance(thing, tuple) or len(thing) != 2 or not is_whole(thing[0], nearest, nearest):
        return False
    if not isinstance(thing[1], list) or len(thing[1]) != len(changes):
        return False
    return all([_is_this_change(found, change) for found, change in zip(thing[1], changes)])


def _is_this_change(thing, change):
    if not isinstance(thing, tuple) or len(thing) != len(change):
        return False
    # By == alone a truth would be taken for a number.
    return all([is_whole(found, number, number) for found, number in zip(thing, change)])


def parted_by_parts(rows, one, other):
    """The places where the two are unlike, as in parted, and how many pairs of parts were looked at."""
    if not isinstance(rows, Copied):
        raise NoWay(rows)
    changes = []
    looks = 0
    ahead = [(rows.root(one), rows.root(other))]
    while ahead:
        left, right = ahead.pop()
        looks += 1
        if left != right:
            changes.extend(_unlike_leaves(rows.part(left), rows.part(right)))
            halves = list(zip(halves_of(rows.part(left)), halves_of(rows.part(right))))
            # The pair that is put on the list last is looked at next: that of the left halves.
            ahead.extend(halves[::-1])
    return changes, looks


def _unlike_leaves(before, behind):
    """The change that two leaves of one place tell, as a list; none where they tell none, or are forks."""
    if before[0] == "fork" or before[2] == behind[2]:
        return []
    return [(before[1], before[2], behind[2])]


def is_parting(thing, size):
    """Whether the thing is parting changes of a row with so many places."""
    if not isinstance(thing, (list, tuple)) or not all([_is_parting_change(change, size) for change in thing]):
        return False
    return all([thing[at - 1][0] < thing[at][0] for at in range(1, len(thing))])


def _is_parting_change(thing, size):
    if not isinstance(thing, tuple) or len(thing) != 3:
        return False
    place, before, behind = thing
    return is_whole(place, 0, size - 1) and is_worth(before) and is_worth(behind) and before != behind


def _tree_for_two(rows, one, other):
    """The tree of the row's makes, where it is a row of a way and both are kept makes of it."""
    need_way(rows)
    rows.need_make(one)
    rows.need_make(other)
    return rows.tree()
