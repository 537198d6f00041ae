"""The turned way: the worths of one make lie at hand, and notes lead from each other make to it."""

from makeskept.rows import Rows


class Turned(Rows):
    """A row in all its makes, kept in the turned way."""

    def way(self):
        """The word of the way."""
        return "turned"

    def room(self):
        """The number of places and of notes."""
        return self.size() + len(self._notes)

    def copied(self):
        """Another turned row that tells all the same."""
        other = Turned(self._worths)
        other._hand = self._hand
        other._notes = dict(self._notes)
        return self.same_makes(other)

    def at_hand(self):
        """The make at hand, also where it was let go."""
        return self._hand

    def notes(self):
        """The notes (place, worth, toward) by their makes, rising."""
        return {make: self._notes[make] for make in sorted(self._notes)}

    def read_by(self, make):
        """The worths of the make by following the notes, with nothing turned."""
        self.need_make(make)
        worths = list(self._worths)
        # A note changes the row of the make toward, so those nearer the one at hand come first.
        for number in reversed(self._to_hand(make)[:-1]):
            place, worth, _ = self._notes[number]
            worths[place] = worth
        return worths

    def bring(self, make):
        """How many notes were turned to bring the make at hand."""
        self.need_make(make)
        return self._brought(make)

    def let_go(self, make):
        """The makes that are freed as the make is kept no more, rising."""
        return super().let_go(make)

    def begin(self, worths):
        """Has make 0 at hand."""
        self._worths = worths
        self._hand = 0
        self._notes = {}

    def store(self, make, number, place, worth):
        """Brings the make at hand, and then has the new one at hand, with a note from the one to the other."""
        self._brought(make)
        self._step_to(number, place, worth)
        self.add_steps(1)

    def worths_in(self, make, low, high):
        """The worths of the make from low to below high, when it was brought at hand."""
        self._brought(make)
        return self._worths[low:high]

    def freed(self, make):
        """The makes that are not needed any more, whose notes go."""
        needed = self._needed()
        toward = [number for number in self.tree().way(self._hand, self.makes()[0]) if number in needed]
        # Where the one at hand is needed, it is the first one on this way itself, and nothing is turned.
        self._brought(toward[0])
        gone = [number for number in sorted(self._notes) if number not in needed]
        for number in gone:
            del self._notes[number]
        return gone

    def _brought(self, make):
        """How many notes were turned to bring the make at hand, kept or not."""
        way = self._to_hand(make)[:-1]
        for number in reversed(way):
            place, worth, _ = self._notes.pop(number)
            self._step_to(number, place, worth)
        self.add_steps(len(way))
        return len(way)

    def _step_to(self, make, place, worth):
        """Has the make beside the one at hand there, which gets a note of the place where the two are unlike."""
        self._notes[self._hand] = (place, self._worths[place], make)
        self._worths[place] = worth
        self._hand = make

    def _to_hand(self, make):
        """The makes from the make to the one at hand, both counted, by the notes."""
        makes = [make]
        while makes[-1] != self._hand:
            makes.append(self._notes[makes[-1]][2])
        return makes

    def _needed(self):
        """The makes that are kept or lie on the way between two kept ones, as the keys of a dict."""
        tree = self.tree()
        makes = self.makes()
        # All ways between two of them lie within the ways from one of them to the others.
        return {number: True for make in makes for number in tree.way(makes[0], make)}
