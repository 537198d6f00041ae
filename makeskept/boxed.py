"""The boxed way: the kept makes stand in a row of their own, and each place has a box that goes along it."""

from makeskept.boxes import found_by_halving
from makeskept.rows import Rows


class Boxed(Rows):
    """A row in all its makes, kept in the boxed way."""

    def way(self):
        """The word of the way."""
        return "boxed"

    def room(self):
        """How many turns all boxes have."""
        return sum([len(box) for box in self._boxes])

    def copied(self):
        """Another boxed row that tells all the same."""
        other = Boxed([0] * self.size())
        other._order = list(self._order)
        other._boxes = [list(box) for box in self._boxes]
        return self.same_makes(other)

    def in_order(self):
        """The kept makes, each one right behind the one that it was put on at first."""
        return list(self._order)

    def box(self, place):
        """The turns (make, writer, worth) of the place, one for each run of neighbours with one writer."""
        self.need_place(place)
        return list(self._boxes[place])

    def let_go(self, make):
        """The writes (place, make) that are needed no more as the make is kept no more, rising."""
        return super().let_go(make)

    def begin(self, worths):
        """Has make 0 stand alone, with a turn of it in each box."""
        self._order = [0]
        self._boxes = [[(0, 0, worth)] for worth in worths]

    def store(self, make, number, place, worth):
        """Has the new make stand right behind the make, with a turn of its own in the box of the place."""
        # The steps are those of looking for the make ahead of the put.
        self._found(make, place)
        turns = self._turn_of_each(place)
        at = self._order.index(make) + 1
        self._order.insert(at, number)
        turns.insert(at, (number, number, worth))
        self._boxes[place] = _first_of_runs(turns)

    def looked(self, make, place):
        """The worth of the make at the place, looked for by halving."""
        return self._found(make, place)[2]

    def freed(self, make):
        """The writes that are needed no more; the make stands in its row no more."""
        at = self._order.index(make)
        boxes = []
        for place in range(self.size()):
            turns = self._turn_of_each(place)
            del turns[at]
            boxes.append(_first_of_runs(turns))
        self._boxes = boxes
        del self._order[at]
        return self._needed_no_more(make)

    def _found(self, make, place):
        """The turn of the place in whose run the make stands, with the steps counted."""
        stands = {number: at for at, number in enumerate(self._order)}
        box = self._boxes[place]
        at, steps = found_by_halving([stands[turn[0]] for turn in box], stands[make])
        self.add_steps(steps)
        return box[at]

    def _turn_of_each(self, place):
        """For each kept make, in their order, the turn that it would have as a run of its own."""
        box = self._boxes[place]
        begins = {turn[0]: turn for turn in box}
        turns = []
        turn = box[0]
        for make in self._order:
            turn = begins.get(make, turn)
            turns.append((make, turn[1], turn[2]))
        return turns


def _first_of_runs(turns):
    """Of these turns of single makes the first one of each run with one writer."""
    return [turn for at, turn in enumerate(turns) if at == 0 or turns[at - 1][1] != turn[1]]
