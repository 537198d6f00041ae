"""What all ways to keep a row in all its makes have in common."""

from makeskept.errors import Alone, NoChanges, NoMake, NoPlace, NoRow, NoStretch, NoWay, NoWorth, TooMany
from makeskept.kinds import is_changes, is_whole, is_worth, is_worths
from makeskept.leaps import LeapTree
from makeskept.tree import MOST_MAKES


class Rows:
    """A row in all its makes. It is not made by itself: each way to keep the worths is a kind under it.

    A way tells way, room, copied, begin, store, need_new, looked or worths_in, and freed of its own. It may ask
    add_steps, same_makes, those that begin with need_, and what is told of the makes. What the interface names of
    put, put_all and let_go for a way stands in the way's own class, too, and asks the one here.
    """

    # A way keeps what it wants by any name, so the names that no way needs to know begin with _row_.

    def __init__(self, worths):
        if not is_worths(worths):
            raise NoRow(worths)
        self._row_size = len(worths)
        self._row_tree = LeapTree()
        self._row_places = [None]
        self._row_kept = [0]
        self._row_steps = 0
        self.begin(list(worths))

    def way(self):
        """The word of the way."""
        raise NotImplementedError("each way has a word of its own")

    def room(self):
        """How much room the row takes."""
        raise NotImplementedError("each way tells its room")

    def copied(self):
        """Another row of the same way that tells all the same."""
        raise NotImplementedError("each way copies what it keeps")

    def begin(self, worths):
        """Lays down the worths of make 0; the list is the way's own."""

    def store(self, make, number, place, worth):
        """Lays down the worth that the new make of this number puts at the place of the make."""

    def need_new(self, make):
        """Refuses what the way doesn't take as a make to put on."""

    def looked(self, make, place):
        """The worth of the make at the place, looked for as the way does."""
        raise NotImplementedError("each way looks for worths as it keeps them")

    def worths_in(self, make, low, high):
        """The worths of the make at the places from low to below high."""
        return [self.looked(make, place) for place in range(low, high)]

    def freed(self, make):
        """What is free as the make was let go."""
        raise NotImplementedError("each way tells what is free")

    def size(self):
        """The number of places."""
        return self._row_size

    def many(self):
        """How many makes there are, those counted that were let go."""
        return len(self._row_places)

    def makes(self):
        """The kept makes, rising."""
        return list(self._row_kept)

    def tree(self):
        """A copy of the tree of makes."""
        return self._row_tree.copied()

    def place_of(self, make):
        """The place that the make wrote, None for make 0."""
        self._row_need_there(make)
        return self._row_places[make]

    def writer(self, make, place):
        """The last make on the make's line that wrote the place, 0 where none did."""
        self._row_need_there(make)
        self.need_place(place)
        return self._up_to_writer(make, place)[-1]

    def put(self, make, place, worth):
        """The number of the new make that comes of putting the worth at the place of the make."""
        self.need_make(make)
        self.need_place(place)
        if not is_worth(worth):
            raise NoWorth(worth)
        self.need_new(make)
        self._row_need_room_for(1)
        return self._row_put(make, place, worth)

    def put_all(self, make, changes):
        """The numbers of the new makes that come of putting the changes, one on the other."""
        self.need_make(make)
        if not is_changes(changes, self.size()):
            raise NoChanges(changes)
        if not changes:
            return []
        self.need_new(make)
        self._row_need_room_for(len(changes))
        numbers = []
        on = make
        for place, worth in changes:
            on = self._row_put(on, place, worth)
            numbers.append(on)
        return numbers

    def at(self, make, place):
        """The worth of the make at the place."""
        self.need_make(make)
        self.need_place(place)
        return self.worths_in(make, place, place + 1)[0]

    def row(self, make):
        """All worths of the make."""
        self.need_make(make)
        return list(self.worths_in(make, 0, self.size()))

    def stretch(self, make, low, high):
        """The worths of the make at the places from low to below high."""
        self.need_make(make)
        self.need_stretch(low, high)
        return list(self.worths_in(make, low, high))

    def let_go(self, make):
        """What is free as the make is kept no more."""
        self.need_make(make)
        if len(self._row_kept) == 1:
            raise Alone(make)
        self._row_kept.remove(make)
        return list(self.freed(make))

    def steps(self):
        """How many steps were counted."""
        return self._row_steps

    def add_steps(self, many):
        """Counts so many steps more."""
        self._row_steps += many

    def need_make(self, make):
        """Refuses what is no number of a kept make."""
        # Only a whole number is looked for: True would be found as 1.
        if not is_whole(make, 0, self.many() - 1) or make not in self._row_kept:
            raise NoMake(make)

    def need_place(self, place):
        """Refuses what is no place of the row."""
        if not is_whole(place, 0, self.size() - 1):
            raise NoPlace(place)

    def need_stretch(self, low, high):
        """Refuses what is no stretch of the row."""
        if not is_whole(low, 0, self.size() - 1) or not is_whole(high, low + 1, self.size()):
            raise NoStretch(low, high)

    def same_makes(self, other):
        """The other row, which gets the same makes and steps."""
        other._row_size = self._row_size
        other._row_tree = self._row_tree.copied()
        other._row_places = list(self._row_places)
        other._row_kept = list(self._row_kept)
        other._row_steps = self._row_steps
        return other

    def _up_to_writer(self, make, place):
        """The makes from the make up to the writer of the place, both counted."""
        makes = [make]
        while makes[-1] != 0 and self._row_places[makes[-1]] != place:
            makes.append(self._row_tree.own(makes[-1]))
        return makes

    def _needed_no_more(self, make):
        """The writes that were needed for the make, which was let go, and are for no kept one; by rising places."""
        # No other write can be needed no more: for each place a make needs just that of its writer.
        kept = [self._row_writers(other) for other in self._row_kept]
        writes = []
        for place, writer in enumerate(self._row_writers(make)):
            if all([writers[place] != writer for writers in kept]):
                writes.append((place, writer))
        return writes

    def _row_writers(self, make):
        """The writer of each place, for the make."""
        writers = [0] * self.size()
        for number in self._row_tree.line(make)[1:]:
            writers[self._row_places[number]] = number
        return writers

    def _row_put(self, make, place, worth):
        number = self._row_tree.grow(make)
        self._row_places.append(place)
        self._row_kept.append(number)
        self.store(make, number, place, worth)
        return number

    def _row_need_room_for(self, more):
        many = self.many() + more
        if many > MOST_MAKES:
            raise TooMany(many)

    def _row_need_there(self, make):
        if not is_whole(make, 0, self.many() - 1):
            raise NoMake(make)


def need_way(thing):
    """Refuses what is no row of a way."""
    if not isinstance(thing, Rows):
        raise NoWay(thing)
