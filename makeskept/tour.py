"""A tour of a tree of makes: each make has two marks in an order, between which stand those of all makes beneath it."""

from makeskept.errors import NoMake, TooMany
from makeskept.kinds import is_whole
from makeskept.order import Order
from makeskept.tree import MOST_MAKES


class Tour:
    """A tree of makes, at first make 0 alone, in which each make has a mark of its coming and one of its leaving."""

    def __init__(self):
        self._order = Order()
        self._marks = [(0, self._order.behind(0))]

    def many(self):
        """How many makes there are."""
        return len(self._marks)

    def grow(self, make):
        """The number of a new make that is put on the make."""
        self._need_make(make)
        number = self.many()
        if number >= MOST_MAKES:
            raise TooMany(number + 1)
        coming = self._order.behind(self._marks[make][0])
        leaving = self._order.behind(coming)
        self._marks.append((coming, leaving))
        return number

    def marks_of(self, make):
        """The marks of the make's coming and of its leaving."""
        self._need_make(make)
        return self._marks[make]

    def order(self):
        """A copy of the order in which the marks stand."""
        return self._order.copied()

    def coming(self):
        """All makes by their coming."""
        return self._makes_by({marks[0]: make for make, marks in enumerate(self._marks)})

    def leaving(self):
        """All makes by their leaving."""
        return self._makes_by({marks[1]: make for make, marks in enumerate(self._marks)})

    def within(self, one, other):
        """Whether the other make is the one, or is beneath it."""
        self._need_make(one)
        self._need_make(other)
        return one == other or self._is_beneath(one, other)

    def beneath(self, make):
        """The makes beneath the make, by their coming."""
        self._need_make(make)
        return [other for other in self.coming() if self._is_beneath(make, other)]

    def copied(self):
        """Another tour with the same makes and marks."""
        other = Tour()
        other._order = self._order.copied()
        other._marks = list(self._marks)
        return other

    def _makes_by(self, makes):
        """The makes in the order in which their marks stand, each found by its mark."""
        return [makes[mark] for mark in self._order.marks() if mark in makes]

    def _is_beneath(self, one, other):
        # The two marks of a make enclose whole pairs of marks, so it is enough to look where the coming stands.
        coming = self._marks[other][0]
        return self._order.ahead(self._marks[one][0], coming) and self._order.ahead(coming, self._marks[one][1])

    def _need_make(self, make):
        if not is_whole(make, 0, self.many() - 1):
            raise NoMake(make)
