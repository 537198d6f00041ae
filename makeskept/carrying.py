"""What parts two makes is turned about and put on a make, and what a make has of its own is carried to another one."""

from makeskept.errors import Clash, NoChanges
from makeskept.kinds import MOST_PLACES
from makeskept.parting import is_parting
from makeskept.rows import need_way


def turned_about(changes):
    """Parting changes with the worths before and behind exchanged."""
    if not is_parting(changes, MOST_PLACES):
        raise NoChanges(changes)
    return [(place, behind, before) for place, before, behind in changes]


def put_on(rows, make, changes):
    """The make that comes of putting parting changes on the make."""
    need_way(rows)
    rows.need_make(make)
    if not is_parting(changes, rows.size()):
        raise NoChanges(changes)
    worths = rows.row(make)
    _need_no_clash([place for place, before, _ in changes if worths[place] != before])
    return _put(rows, make, [(place, behind) for place, _, behind in changes])


def carried(rows, one, other):
    """The make that comes of carrying to the one what the other has of its own."""
    need_way(rows)
    rows.need_make(one)
    rows.need_make(other)
    nearest = rows.tree().nearest(one, other)
    rows.need_make(nearest)
    mine = rows.row(one)
    both = rows.row(nearest)
    # Where the one has the other's worth already, nothing is put and nothing clashes.
    wanted = [(place, worth) for place, worth in enumerate(rows.row(other)) if worth not in (both[place], mine[place])]
    _need_no_clash([place for place, _ in wanted if mine[place] != both[place]])
    return _put(rows, one, wanted)


def _need_no_clash(places):
    if places:
        raise Clash(places)


def _put(rows, make, changes):
    """The last make that comes of putting the changes, the make itself where there are none."""
    numbers = rows.put_all(make, changes)
    return numbers[-1] if numbers else make
