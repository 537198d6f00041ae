"""The copied way: each make has a root in a store of parts, and the makes share the parts they have alike."""

from makeskept.errors import NoStretch
from makeskept.halves import Parts, built, halves_of, put_down, stretch_of
from makeskept.kinds import is_whole
from makeskept.rows import Rows


class Copied(Rows):
    """A row in all its makes, kept in the copied way."""

    def way(self):
        """The word of the way."""
        return "copied"

    def room(self):
        """How many parts are kept."""
        return self._parts.many()

    def copied(self):
        """Another copied row that tells all the same."""
        other = Copied([0] * self.size())
        other._parts = self._parts.copied()
        other._roots = dict(self._roots)
        return self.same_makes(other)

    def root(self, make):
        """The number of the make's root."""
        self.need_make(make)
        return self._roots[make]

    def part(self, number):
        """The part, as a tuple."""
        return self._parts.part(number)

    def pointers(self, number):
        """How many point to the part."""
        return self._parts.pointers(number)

    def parts_of(self, make):
        """All parts of the make: the root, all of its left half, all of its right half."""
        self.need_make(make)
        return self._parts_in(make, 0, self.size())

    def part_at(self, make, low, high):
        """The number of the make's part that has just this stretch."""
        self.need_make(make)
        # Truths are ruled out first: as a pair they would be found as a stretch.
        if is_whole(low, 0, self.size()) and is_whole(high, 0, self.size()):
            for number in self._parts_in(make, 0, self.size()):
                if stretch_of(self._parts.part(number)) == (low, high):
                    return number
        raise NoStretch(low, high)

    def shared(self, one, other):
        """The numbers of the parts that both makes have, rising."""
        mine = self.parts_of(one)
        others = self.parts_of(other)
        return sorted([number for number in mine if number in others])

    def let_go(self, make):
        """The numbers of the parts that are freed as the make is kept no more, rising."""
        return super().let_go(make)

    def begin(self, worths):
        """Lays the worths in a store of the row's own."""
        self._parts = Parts()
        self._roots = {}
        self._hold_root(0, built(self._parts, worths))

    def store(self, make, number, place, worth):
        """Puts the worth down at the root of the make."""
        ahead = self._parts.many()
        self._hold_root(number, put_down(self._parts, self._roots[make], place, worth))
        self.add_steps(self._parts.many() - ahead)

    def worths_in(self, make, low, high):
        """The worths of the make from low to below high, by looking at each part that has a place of them."""
        looked = [self._parts.part(number) for number in self._parts_in(make, low, high)]
        self.add_steps(len(looked))
        return [part[2] for part in looked if part[0] == "leaf"]

    def freed(self, make):
        """The numbers of the parts that are freed as the root of the make is released."""
        return self._parts.release(self._roots.pop(make))

    def _hold_root(self, make, root):
        self._parts.hold(root)
        self._roots[make] = root

    def _parts_in(self, make, low, high):
        """The make's parts that have a place from low to below high: each ahead of its left half, then its right."""
        found = []
        ahead = [self._roots[make]]
        while ahead:
            number = ahead.pop()
            part = self._parts.part(number)
            begin, end = stretch_of(part)
            if begin < high and low < end:
                found.append(number)
                ahead.extend(halves_of(part)[::-1])
        return found
