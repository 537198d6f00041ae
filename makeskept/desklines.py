"""The lines that a desk is told, read into what they tell."""

from makeskept.errors import NoLine
from makeskept.kinds import read_worths

MOST_SIGNS = 700
MOST_LETTERS = 8
LETTERS = "abcdefghijklmnopqrstuvwxyz"

# How many numbers stand behind the first word, where nothing else does.
NUMBERS = {
    "put": 3, "at": 2, "all": 1, "part": 3, "parted": 2, "carry": 2, "letgo": 1, "makes": 0, "tree": 0, "stood": 2,
    "alike": 0, "way": 0, "room": 0, "steps": 0, "text": 0, "names": 0,
}


def read_line(line):
    """The first word of the line and what stands behind it, as a tuple."""
    words = _words_of(line)
    things = _things_behind(words[0], words[1:]) if words else None
    if things is None:
        raise NoLine(line)
    return (words[0], *things)


def _words_of(thing):
    """The words of a line, none where the thing is no text that is made as a line is."""
    if not isinstance(thing, str) or len(thing) > MOST_SIGNS or "\n" in thing:
        return []
    words = thing.split(" ")
    return [] if "" in words else words


def _things_behind(first, rest):
    """What the rest of the words tell behind the first one, as a list; None where they are no such line."""
    if first in NUMBERS:
        return read_worths(rest) if len(rest) == NUMBERS[first] else None
    if first == "row":
        return _way_and_worths(rest)
    if first == "putall":
        return _make_and_pairs(rest)
    if first == "read":
        return [rest[0], _lines_of(rest[1:])] if len(rest) > 1 else None
    if first == "over":
        return rest if len(rest) == 1 else None
    if first in ("keep", "take", "drop"):
        return rest if len(rest) == 1 and _is_name(rest[0]) else None
    return None


def _way_and_worths(words):
    worths = read_worths(words[1:])
    return [words[0], worths] if worths else None


def _make_and_pairs(words):
    numbers = read_worths(words)
    if numbers is None or len(numbers) % 2 == 0:
        return None
    return [numbers[0], [(numbers[at], numbers[at + 1]) for at in range(1, len(numbers), 2)]]


def _lines_of(words):
    """The words with a line feed in the place of each word that is a stroke."""
    lines = [[]]
    for word in words:
        if word == "/":
            lines.append([])
        else:
            lines[-1].append(word)
    return "\n".join([" ".join(line) for line in lines])


def _is_name(word):
    return len(word) <= MOST_LETTERS and all([sign in LETTERS for sign in word])
