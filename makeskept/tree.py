"""The tree of makes: which make was put on which."""

from makeskept.errors import NoMake, NoNumber, TooMany
from makeskept.kinds import is_whole

MOST_MAKES = 64


class MakeTree:
    """A tree of makes, at first make 0 alone, that grows by one make at a time."""

    def __init__(self):
        self._owns = [None]
        self._depths = [0]
        self._on = [[]]

    def many(self):
        """How many makes there are."""
        return len(self._owns)

    def grow(self, make):
        """The number of a new make that is put on the make."""
        self._need_make(make)
        number = self.many()
        if number >= MOST_MAKES:
            raise TooMany(number + 1)
        self._owns.append(make)
        self._depths.append(self._depths[make] + 1)
        self._on.append([])
        self._on[make].append(number)
        return number

    def own(self, make):
        """The make that the make was put on, None for make 0."""
        self._need_make(make)
        return self._owns[make]

    def depth(self, make):
        """How many makes stand above the make."""
        self._need_make(make)
        return self._depths[make]

    def on(self, make):
        """The makes that were put on the make, rising."""
        self._need_make(make)
        return list(self._on[make])

    def line(self, make):
        """The makes from make 0 to the make."""
        self._need_make(make)
        line = [make]
        while self._owns[line[-1]] is not None:
            line.append(self._owns[line[-1]])
        return line[::-1]

    def up(self, make, steps):
        """The make that stands so many steps above the make."""
        self._need_make(make)
        self._need_steps(make, steps)
        return self.line(make)[self._depths[make] - steps]

    def nearest(self, one, other):
        """The last make that stands on the lines of both."""
        self._need_make(one)
        self._need_make(other)
        # A make has a greater number than those above it, so the greater one of two stands on one line alone.
        while one != other:
            if one > other:
                one = self._owns[one]
            else:
                other = self._owns[other]
        return one

    def way(self, one, other):
        """The makes from the one up to the nearest make of both and down to the other."""
        depth = self._depths[self.nearest(one, other)]
        up = self.line(one)[depth:]
        down = self.line(other)[depth + 1:]
        return up[::-1] + down

    def apart(self, one, other):
        """How many steps the two makes are apart."""
        return len(self.way(one, other)) - 1

    def copied(self):
        """Another tree with the same makes."""
        return self._grown_alike(MakeTree())

    def _grown_alike(self, other):
        for own in self._owns[1:]:
            other.grow(own)
        return other

    def _need_make(self, make):
        if not is_whole(make, 0, self.many() - 1):
            raise NoMake(make)

    def _need_steps(self, make, steps):
        if not is_whole(steps, 0, self._depths[make]):
            raise NoNumber(steps)
