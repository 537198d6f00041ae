"""Rows of any way by its word, and a row that goes over from one way to another."""

from makeskept.boxed import Boxed
from makeskept.copied import Copied
from makeskept.errors import Elder, NoWay
from makeskept.lined import Lined
from makeskept.plain import Plain
from makeskept.rows import need_way
from makeskept.turned import Turned

WAY_WORDS = ("plain", "turned", "copied", "lined", "boxed")


def way_words():
    """The words of the ways."""
    return list(WAY_WORDS)


def of_way(word, worths):
    """A new row of the way with this word."""
    _need_word(word)
    if word == "plain":
        return Plain(worths)
    if word == "turned":
        return Turned(worths)
    if word == "copied":
        return Copied(worths)
    if word == "lined":
        return Lined(worths)
    return Boxed(worths)


def gone_over(rows, word):
    """A new row of the way with this word that has the same makes."""
    need_way(rows)
    tree = rows.tree()
    # Ahead of all asks of the row: they may bring another make at hand, and what is refused shall leave it.
    _need_way_for(word, [tree.own(make) for make in range(rows.many())])
    return of_told(word, rows.size(), told_makes(rows))


def told_makes(rows):
    """All makes of the row by their numbers, as tuples (own make, place, row), with None for what a make has not."""
    tree = rows.tree()
    kept = {make: rows.row(make) for make in rows.makes()}
    return [(tree.own(make), rows.place_of(make), kept.get(make)) for make in range(rows.many())]


def of_told(word, size, told):
    """A new row of the way with this word that has the makes that are told, and so many places."""
    worths = {write: worth for write, worth in needed_writes(size, told)}
    rows = of_way(word, [worths.get((place, 0), 0) for place in range(size)])
    for make in range(1, len(told)):
        own, place, _ = told[make]
        # A lined row refuses just the least make that is not put on the one ahead of it.
        rows.put(own, place, worths.get((place, make), 0))
    for make, (_, _, row) in enumerate(told):
        if row is None:
            rows.let_go(make)
    return rows


def needed_writes(size, told):
    """For each place of each kept one of the makes that are told a tuple of the write that it needs and its worth."""
    writers = [[0] * size]
    found = []
    for make, (own, place, row) in enumerate(told):
        if own is not None:
            writers.append(list(writers[own]))
            writers[make][place] = make
        if row is not None:
            found.extend([((at, writers[make][at]), row[at]) for at in range(size)])
    return found


def _need_way_for(word, owns):
    """Refuses what is no word of a way, then what the way would refuse of these own makes of all makes."""
    _need_word(word)
    if word == "lined":
        for make in range(1, len(owns)):
            if owns[make] != make - 1:
                raise Elder(owns[make])


def _need_word(word):
    if word not in WAY_WORDS:
        raise NoWay(word)
