"""The lined way: the makes are a line, and each place has a box of the worths that were put there."""

from makeskept.boxes import found_by_halving
from makeskept.errors import Elder
from makeskept.rows import Rows


class Lined(Rows):
    """A row in all its makes, kept in the lined way."""

    def way(self):
        """The word of the way."""
        return "lined"

    def room(self):
        """How many turns all boxes have."""
        return sum([len(box) for box in self._boxes])

    def copied(self):
        """Another lined row that tells all the same."""
        other = Lined([0] * self.size())
        other._boxes = [list(box) for box in self._boxes]
        return self.same_makes(other)

    def box(self, place):
        """The turns (make, worth) of the place, by rising makes."""
        self.need_place(place)
        return list(self._boxes[place])

    def put(self, make, place, worth):
        """The number of the new make that comes of putting the worth at the place of the newest make."""
        return super().put(make, place, worth)

    def put_all(self, make, changes):
        """The numbers of the new makes that come of putting the changes on the newest make, one on the other."""
        return super().put_all(make, changes)

    def let_go(self, make):
        """The writes (place, make) that are needed no more as the make is kept no more, rising."""
        return super().let_go(make)

    def begin(self, worths):
        """Has a turn of make 0 in each box."""
        self._boxes = [[(0, worth)] for worth in worths]

    def need_new(self, make):
        """Refuses a make that is not the newest one of all that are there, kept or not."""
        if make != self.many() - 1:
            raise Elder(make)

    def store(self, make, number, place, worth):
        """Has a turn of the new make in the box of the place."""
        self._boxes[place].append((number, worth))
        self.add_steps(1)

    def looked(self, make, place):
        """The worth of the make at the place, looked for by halving."""
        box = self._boxes[place]
        at, steps = found_by_halving([turn[0] for turn in box], make)
        self.add_steps(steps)
        return box[at][1]

    def freed(self, make):
        """The writes that are needed no more, whose turns go."""
        writes = self._needed_no_more(make)
        for place, writer in writes:
            self._boxes[place] = [turn for turn in self._boxes[place] if turn[0] != writer]
        return writes
