"""A row in all its makes, told again by the words of the document alone: each make's row is kept whole."""

from tests.draws import Draws

WORTHS = [0, 1, -1, 7, -10, 10 ** 29, 10 ** 30 - 1, 1 - 10 ** 30]


class Book:
    """What all ways tell; each way's own book adds what it counts, what is free and how much room it takes."""

    def __init__(self, worths):
        self.owns = [None]
        self.places = [None]
        self.rows = [list(worths)]
        self.lines = [[0]]
        self.kept = [0]
        self.steps = 0
        self.begin()

    def many(self):
        return len(self.owns)

    def size(self):
        return len(self.rows[0])

    def writer(self, make, place):
        """The last make on the line that wrote the place."""
        return [number for number in self.lines[make] if number == 0 or self.places[number] == place][-1]

    def way(self, one, other):
        """The makes on the way from the one to the other."""
        up = self.lines[one]
        down = self.lines[other]
        both = len([make for make, beside in zip(up, down) if make == beside])
        return up[:both - 1:-1] + down[both - 1:]

    def needed_writes(self):
        """The writes (place, make) that are needed for some kept make."""
        places = range(self.size())
        return {(place, self.writer(make, place)) for make in self.kept for place in places}

    def put(self, make, place, worth):
        """A make that is put on the make."""
        number = self.many()
        self.owns.append(make)
        self.places.append(place)
        self.rows.append([worth if at == place else elder for at, elder in enumerate(self.rows[make])])
        self.lines.append(self.lines[make] + [number])
        self.kept.append(number)
        self.steps += self.put_steps(make, place)
        return number

    def put_all(self, make, changes):
        """Makes put one on the other."""
        numbers = []
        for place, worth in changes:
            make = self.put(make, place, worth)
            numbers.append(make)
        return numbers

    def asked(self, make, low, high):
        """The worths of a stretch, with the steps counted."""
        self.steps += self.ask_steps(make, low, high)
        return self.rows[make][low:high]

    def let_go(self, make):
        """What is free by it."""
        self.kept.remove(make)
        return self.freed(make)

    # What each way tells of its own; here that of no way.

    def begin(self):
        pass

    def put_steps(self, make, place):
        return 0

    def ask_steps(self, make, low, high):
        return 0

    def freed(self, make):
        return []

    def room(self):
        return 0


class PlainBook(Book):
    """[46] The plain way."""

    def begin(self):
        self.writes = self.needed_writes()

    def put_steps(self, make, place):
        self.writes.add((place, self.many() - 1))
        return 1

    def ask_steps(self, make, low, high):
        steps = 0
        for place in range(low, high):
            line = self.lines[make]
            steps += len(line) - line.index(self.writer(make, place))
        return steps

    def freed(self, make):
        needed = self.needed_writes()
        gone = sorted(self.writes - needed)
        self.writes = needed
        return gone

    def room(self):
        return len(self.needed_writes())


def some_worth(draws):
    """One of the worths with many figures, or a small one."""
    return draws.among(WORTHS) if draws.below(4) == 0 else draws.below(7) - 3


def some_row(draws, size):
    """The worths of a row."""
    return [some_worth(draws) for _ in range(size)]


def some_make(draws, book, lines):
    """A kept make to put on, None where there is none."""
    newest = book.many() - 1
    if lines:
        return newest if newest in book.kept else None
    return newest if newest in book.kept and draws.below(2) else draws.among(book.kept)


def some_deed(draws, book, lines):
    """A deed that is not refused: the name of a method, and its arguments."""
    make = some_make(draws, book, lines)
    size = book.size()
    kind = draws.below(10)
    if kind < 4 and make is not None and book.many() < 64:
        return "put", (make, draws.below(size), some_worth(draws))
    if kind < 5 and make is not None:
        most = min(20, 64 - book.many()) + 1
        changes = [(draws.below(size), some_worth(draws)) for _ in range(min(draws.below(most), draws.below(most)))]
        return "put_all", (make, changes)
    if kind < 7 and len(book.kept) > 1:
        spared = draws.below(3) or len(book.kept) < 3
        return "let_go", (draws.among(book.kept[:-1] if spared else book.kept),)
    if kind < 8:
        return "at", (draws.among(book.kept), draws.below(size))
    if kind < 9:
        return "row", (draws.among(book.kept),)
    low = draws.below(size)
    return "stretch", (draws.among(book.kept), low, low + 1 + draws.below(size - low))


def done(book, name, arguments):
    """What the book tells of a deed."""
    if name == "at":
        return book.asked(arguments[0], arguments[1], arguments[1] + 1)[0]
    if name == "row":
        return book.asked(arguments[0], 0, book.size())
    if name == "stretch":
        return book.asked(*arguments)
    return getattr(book, name)(*arguments)


def script(beginning, kind, lines):
    """A book, and draws to write a script of deeds with."""
    draws = Draws(beginning)
    size = (1, 2, 3, 5, 8, 16)[beginning % 6]
    return draws, kind(some_row(draws, size))
