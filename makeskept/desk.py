"""A desk: it has a row, and rows that are kept by names, and is told lines that it answers with texts."""

from makeskept.carrying import carried
from makeskept.desklines import read_line
from makeskept.errors import NoLine, NoName
from makeskept.maketext import make_text, read_makes
from makeskept.over import gone_over, of_way
from makeskept.parting import parted
from makeskept.searching import alike, stood

# The lines that a desk without a row takes.
WITHOUT_A_ROW = ("row", "read", "take", "drop", "names")


def _put(rows, make, place, worth):
    return str(rows.put(make, place, worth))


def _put_all(rows, make, changes):
    return _numbers(rows.put_all(make, changes))


def _carry(rows, one, other):
    return str(carried(rows, one, other))


def _let_go(rows, make):
    return str(len(rows.let_go(make)))


def _at(rows, make, place):
    return str(rows.at(make, place))


def _all(rows, make):
    return _numbers(rows.row(make))


def _part(rows, make, low, high):
    return _numbers(rows.stretch(make, low, high))


def _makes(rows):
    return _numbers(rows.makes())


def _tree(rows):
    tree = rows.tree()
    return _numbers([tree.own(make) for make in range(1, tree.many())])


def _parted(rows, one, other):
    nearest, changes = parted(rows, one, other)
    return f"{nearest} : {_lists(changes)}"


def _stood(rows, place, worth):
    return _numbers(stood(rows, place, worth))


def _alike(rows):
    return _lists(alike(rows))


def _way(rows):
    return rows.way()


def _room(rows):
    return str(rows.room())


def _steps(rows):
    return str(rows.steps())


def _text(rows):
    return make_text(rows).replace("\n", " / ")


# What is answered to a line that the desk's row alone is asked or told.
OF_THE_ROW = {
    "put": _put, "putall": _put_all, "carry": _carry, "letgo": _let_go, "at": _at, "all": _all, "part": _part,
    "makes": _makes, "tree": _tree, "parted": _parted, "stood": _stood, "alike": _alike, "way": _way, "room": _room,
    "steps": _steps, "text": _text,
}


class Desk:
    """A desk with a row, at first none, and kept rows by names, at first none."""

    def __init__(self):
        self._rows = None
        self._kept = {}

    def say(self, line):
        """The answer to the line."""
        word, *things = read_line(line)
        if self._rows is None and word not in WITHOUT_A_ROW:
            raise NoLine(line)
        if word in OF_THE_ROW:
            answer = OF_THE_ROW[word]
            return answer(self._rows, *things)
        if word == "names":
            return _words(sorted(self._kept))
        if word in ("keep", "take", "drop"):
            return self._done_by_name(word, things[0])
        return self._with_another_row(word, things)

    def _done_by_name(self, word, name):
        """Keeps the row, takes a kept one or drops it."""
        if word == "keep":
            self._kept[name] = self._rows.copied()
        elif name not in self._kept:
            raise NoName(name)
        elif word == "take":
            self._rows = self._kept[name].copied()
        else:
            del self._kept[name]
        return "ok"

    def _with_another_row(self, word, things):
        """Has a new row in the place of the one that was."""
        if word == "over":
            self._rows = gone_over(self._rows, things[0])
            return "ok"
        self._rows = of_way(things[0], things[1]) if word == "row" else read_makes(things[1], things[0])
        return f"size {self._rows.size()}"


def _words(texts):
    return " ".join(texts) if texts else "none"


def _numbers(numbers):
    return _words([str(number) for number in numbers])


def _lists(lists):
    return " / ".join([_numbers(numbers) for numbers in lists]) if lists else "none"
