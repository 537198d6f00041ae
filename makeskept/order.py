"""Marks in order: each that stands has a label, and the labels rise along the row of marks."""

from makeskept.errors import Alone, NoMark, TooMany
from makeskept.kinds import is_whole

MOST_MARKS = 200
LABELS = 1024


class Order:
    """A row of marks, at first mark 0 alone, in which a mark is put right behind one that stands."""

    def __init__(self):
        self._marks = [0]
        self._labels = {0: 0}
        self._given = 1
        self._times = 0

    def behind(self, mark):
        """The number of a new mark that is put right behind the mark."""
        self._need_mark(mark)
        if self.many() >= MOST_MARKS:
            raise TooMany(self.many() + 1)
        at = self._marks.index(mark)
        if self._label_at(at + 1) - self._label_at(at) < 2:
            self._label_anew()
        number = self._given
        self._given += 1
        self._labels[number] = (self._label_at(at) + self._label_at(at + 1)) // 2
        self._marks.insert(at + 1, number)
        return number

    def drop(self, mark):
        """The mark stands no more."""
        self._need_mark(mark)
        if self.many() == 1:
            raise Alone(mark)
        self._marks.remove(mark)
        del self._labels[mark]

    def many(self):
        """How many marks stand."""
        return len(self._marks)

    def marks(self):
        """All marks that stand, in their order."""
        return list(self._marks)

    def ahead(self, one, other):
        """Whether the one mark stands ahead of the other."""
        return self.label(one) < self.label(other)

    def label(self, mark):
        """The label of the mark."""
        self._need_mark(mark)
        return self._labels[mark]

    def anew(self):
        """How many times all marks were labelled anew."""
        return self._times

    def copied(self):
        """Another order with the same marks and labels."""
        other = Order()
        other._marks = list(self._marks)
        other._labels = dict(self._labels)
        other._given = self._given
        other._times = self._times
        return other

    def _label_at(self, at):
        """The label of the mark that stands there, or what stands for one behind the last mark."""
        if at == self.many():
            return LABELS
        return self._labels[self._marks[at]]

    def _label_anew(self):
        step = LABELS // self.many()
        for at, mark in enumerate(self._marks):
            self._labels[mark] = at * step
        self._times += 1

    def _need_mark(self, mark):
        # Only a whole number is looked for: True would be found as 1, and a list can't be looked for at all.
        if not is_whole(mark, 0, self._given - 1) or mark not in self._labels:
            raise NoMark(mark)
