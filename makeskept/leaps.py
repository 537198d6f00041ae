"""The tree that leaps: a tree of makes that keeps for each make those that stand 1, 2, 4, 8 .. steps above it."""

from makeskept.tree import MakeTree


class LeapTree(MakeTree):
    """A tree of makes that keeps the leaps of each make."""

    def __init__(self):
        super().__init__()
        self._leaps = [[]]

    def grow(self, make):
        """The number of a new make that is put on the make."""
        number = super().grow(make)
        self._leaps.append(self._leaps_through(make))
        return number

    def leaps(self, make):
        """The makes that stand 1, 2, 4, 8 and so on steps above the make, as long as there are such."""
        self._need_make(make)
        return list(self._leaps[make])

    def leap_way(self, make, steps):
        """The makes at which one comes down by leaps on the way so many steps up, the greatest leap first."""
        self._need_make(make)
        self._need_steps(make, steps)
        way = []
        at = make
        for power in reversed(range(steps.bit_length())):
            if steps & (1 << power):
                at = self._leaps[at][power]
                way.append(at)
        return way

    def copied(self):
        """Another tree that leaps, with the same makes."""
        return self._grown_alike(LeapTree())

    def _leaps_through(self, own):
        """The leaps of a make whose own make this is."""
        leaps = [own]
        # The next leap is twice the last one: the leap of the same power of the make where the last one comes down.
        while len(self._leaps[leaps[-1]]) >= len(leaps):
            leaps.append(self._leaps[leaps[-1]][len(leaps) - 1])
        return leaps
