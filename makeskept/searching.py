"""Searching all kept makes of a row."""

from makeskept.errors import NoWorth
from makeskept.kinds import is_worth
from makeskept.rows import need_way


def stood(rows, place, worth):
    """The kept makes that have the worth at the place, rising."""
    need_way(rows)
    rows.need_place(place)
    if not is_worth(worth):
        raise NoWorth(worth)
    return [make for make in rows.makes() if rows.at(make, place) == worth]


def worths_of(rows, place):
    """The lists of the kept makes that have a worth at the place, by the worths, in the order of their first makes."""
    need_way(rows)
    rows.need_place(place)
    return _makes_by([(rows.at(make, place), make) for make in rows.makes()])


def alike(rows):
    """The lists of the kept makes that have one row, each rising, in the order of their first makes."""
    need_way(rows)
    makes = _makes_by([(tuple(rows.row(make)), make) for make in rows.makes()])
    return list(makes.values())


def first_unlike(rows, one, other):
    """The least place at which the two makes have unlike worths, None where there is none."""
    need_way(rows)
    rows.need_make(one)
    rows.need_make(other)
    for place, (mine, others) in enumerate(list(zip(rows.row(one), rows.row(other)))):
        if mine != others:
            return place
    return None


def line_of_place(rows, make, place):
    """The makes on the make's line that some kept make has its worth of the place from, with the worths they put."""
    need_way(rows)
    rows.need_make(make)
    rows.need_place(place)
    worths = {rows.writer(kept, place): rows.at(kept, place) for kept in rows.makes()}
    return [(number, worths[number]) for number in rows.tree().line(make) if number in worths]


def _makes_by(pairs):
    """The makes of these pairs (key, make) in lists by their keys."""
    found = {}
    for key, make in pairs:
        found.setdefault(key, []).append(make)
    return found
