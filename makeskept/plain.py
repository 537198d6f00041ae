"""The plain way: a row keeps the writes that are needed, each with its worth."""

from makeskept.rows import Rows


class Plain(Rows):
    """A row in all its makes, kept in the plain way."""

    def way(self):
        """The word of the way."""
        return "plain"

    def room(self):
        """How many writes are kept."""
        return len(self._writes)

    def copied(self):
        """Another plain row that tells all the same."""
        other = Plain([0] * self.size())
        other._writes = {write: self._writes[write] for write in self._writes}
        return self.same_makes(other)

    def let_go(self, make):
        """The writes (place, make) that are needed no more as the make is kept no more, rising."""
        return super().let_go(make)

    def begin(self, worths):
        """Keeps the worths as writes of make 0."""
        self._writes = {(place, 0): worth for place, worth in enumerate(worths)}

    def store(self, make, number, place, worth):
        """Keeps the write of the new make."""
        self._writes[(place, number)] = worth
        self.add_steps(1)

    def looked(self, make, place):
        """The worth of the make at the place, looked for at each make up to the writer."""
        makes = self._up_to_writer(make, place)
        self.add_steps(len(makes))
        return self._writes[(place, makes[-1])]

    def freed(self, make):
        """The writes that are needed no more."""
        writes = self._needed_no_more(make)
        for write in writes:
            del self._writes[write]
        return writes
