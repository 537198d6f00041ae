"""Texts of makes: all makes of a row are written as lines, and lines are read as a row of any way."""

from makeskept.errors import NoText
from makeskept.kinds import MOST_PLACES, read_worths, worth_text
from makeskept.over import needed_writes, of_told, told_makes
from makeskept.rows import need_way
from makeskept.tree import MOST_MAKES


def make_text(rows):
    """All makes of the row, written as a text of lines."""
    need_way(rows)
    told = told_makes(rows)
    return "\n".join([f"size {rows.size()}"] + [_line(make, told[make]) for make in range(len(told))])


def read_makes(text, word):
    """A new row of the way with this word that has the makes that the text tells."""
    size = _size_in(text)
    told = None if size is None else _told_in(text, size)
    if told is None or not _is_of_a_row(size, told):
        raise NoText(text)
    return of_told(word, size, told)


def _line(make, told):
    own, place, row = told
    put = f"{make}" if own is None else f"{make} of {own} at {place}"
    return f"{put} gone" if row is None else " ".join([put, ":"] + [worth_text(worth) for worth in row])


def _size_in(thing):
    """The number of places that the first line tells, None where the thing is no text that begins with such a line."""
    if not isinstance(thing, str):
        return None
    words = thing.split("\n")[0].split(" ")
    if len(words) != 2 or words[0] != "size":
        return None
    return _number_in(words[1], 1, MOST_PLACES)


def _told_in(text, size):
    """The makes that the lines behind the first one tell, as of_told takes them; None where one is no such line."""
    lines = text.split("\n")[1:]
    if not 1 <= len(lines) <= MOST_MAKES:
        return None
    told = [_make_in(line.split(" "), make, size) for make, line in enumerate(lines)]
    return None if None in told else told


def _make_in(words, make, size):
    """The make that is told by the words of its line, None where they tell it not."""
    ahead = 5 if make else 1
    put = _put_in(words[:ahead], make, size)
    row = _row_in(words[ahead:], size)
    if put is None or row is None:
        return None
    own, place = put
    return own, place, (row if row else None)


def _put_in(words, make, size):
    """The own make and the place that are told ahead of a row, None where none are told."""
    if make == 0:
        return (None, None) if words == ["0"] else None
    if len(words) != 5 or [words[0], words[1], words[3]] != [str(make), "of", "at"]:
        return None
    own = _number_in(words[2], 0, make - 1)
    place = _number_in(words[4], 0, size - 1)
    return None if own is None or place is None else (own, place)


def _row_in(words, size):
    """The row that is told at the end of a line, without worths where it is gone; None where none is told."""
    if words == ["gone"]:
        return []
    if len(words) != size + 1 or words[0] != ":":
        return None
    return read_worths(words[1:])


def _number_in(word, low, high):
    """The number from low to high that is plainly written in the word, None where none is."""
    for number in range(low, high + 1):
        if word == str(number):
            return number
    return None


def _is_of_a_row(size, told):
    """Whether one of the makes is kept at least, and each write that is needed has one worth for all that need it."""
    writes = needed_writes(size, told)
    worths = {write: worth for write, worth in writes}
    return len(writes) > 0 and all([worths[write] == worth for write, worth in writes])
