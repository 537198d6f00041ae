"""A store of parts: leaves that have a worth, and forks whose two halves are parts; and rows laid in it."""

from makeskept.errors import NoPart, NoPlace, NoRow, NoStretch, NoWorth
from makeskept.kinds import MOST_PLACES, is_whole, is_worth, is_worths


class Parts:
    """A store of parts, each told by its number and kept until the last that points to it goes."""

    def __init__(self):
        self._parts = {}
        self._given = 0
        self._pointing = {}
        self._held = {}

    def leaf(self, place, worth):
        """The number of a new leaf that has the worth."""
        if not is_whole(place, 0, MOST_PLACES - 1):
            raise NoPlace(place)
        if not is_worth(worth):
            raise NoWorth(worth)
        return self._made(("leaf", place, worth))

    def fork(self, low, high, left, right):
        """The number of a new fork that has the two halves."""
        if not is_whole(low, 0, MOST_PLACES) or not is_whole(high, low + 2, MOST_PLACES):
            raise NoStretch(low, high)
        middle = (low + high) // 2
        self._need_half(left, (low, middle))
        self._need_half(right, (middle, high))
        self._pointing[left] += 1
        self._pointing[right] += 1
        return self._made(("fork", low, high, left, right))

    def part(self, number):
        """The part, as a tuple."""
        self._need_part(number)
        return self._parts[number]

    def many(self):
        """How many parts are kept."""
        return len(self._parts)

    def numbers(self):
        """The numbers of the kept parts, rising."""
        return sorted(self._parts)

    def hold(self, number):
        """The part is held once more."""
        self._need_part(number)
        self._held[number] += 1
        self._pointing[number] += 1

    def release(self, number):
        """The numbers of the parts that are freed as the part is held once less, rising."""
        self._need_part(number)
        if self._held[number] == 0:
            raise NoPart(number)
        self._held[number] -= 1
        return self._pointed_less([number])

    def pointers(self, number):
        """How many point to the part."""
        self._need_part(number)
        return self._pointing[number]

    def copied(self):
        """Another store with the same parts."""
        other = Parts()
        other._parts = dict(self._parts)
        other._given = self._given
        other._pointing = dict(self._pointing)
        other._held = dict(self._held)
        return other

    def _made(self, part):
        number = self._given
        self._given += 1
        self._parts[number] = part
        self._pointing[number] = 0
        self._held[number] = 0
        return number

    def _pointed_less(self, numbers):
        """The numbers of the parts that are freed as each of these has one less that points to it, rising."""
        freed = []
        while numbers:
            number = numbers.pop()
            self._pointing[number] -= 1
            if self._pointing[number] == 0:
                numbers.extend(halves_of(self._parts[number]))
                self._forget(number)
                freed.append(number)
        return sorted(freed)

    def _forget(self, number):
        del self._parts[number]
        del self._pointing[number]
        del self._held[number]

    def _need_half(self, number, stretch):
        self._need_part(number)
        if stretch_of(self._parts[number]) != stretch:
            raise NoPart(number)

    def _need_part(self, number):
        # Only a whole number is looked for: True would be found as 1, and a list can't be looked for at all.
        if not is_whole(number, 0, self._given - 1) or number not in self._parts:
            raise NoPart(number)


def stretch_of(part):
    """The stretch of a part, as a tuple (low, high)."""
    if part[0] == "leaf":
        return part[1], part[1] + 1
    return part[1], part[2]


def halves_of(part):
    """The numbers of a part's halves, none for a leaf."""
    if part[0] == "leaf":
        return []
    return [part[3], part[4]]


def built(parts, worths):
    """The number of the root of the worths, laid in the store."""
    if not is_worths(worths):
        raise NoRow(worths)
    return _built_stretch(parts, worths, 0, len(worths))


def _built_stretch(parts, worths, low, high):
    if high - low == 1:
        return parts.leaf(low, worths[low])
    middle = (low + high) // 2
    left = _built_stretch(parts, worths, low, middle)
    right = _built_stretch(parts, worths, middle, high)
    return parts.fork(low, high, left, right)


def put_down(parts, root, place, worth):
    """The number of a root like this one, but for the worth at the place."""
    way = way_down(parts, root, place)
    made = parts.leaf(place, worth)
    for at in reversed(range(len(way) - 1)):
        _, low, high, left, right = parts.part(way[at])
        if way[at + 1] == left:
            made = parts.fork(low, high, made, right)
        else:
            made = parts.fork(low, high, left, made)
    return made


def way_down(parts, root, place):
    """The numbers of the parts from the root down to the leaf of the place."""
    low, high = stretch_of(parts.part(root))
    if not is_whole(place, low, high - 1):
        raise NoPlace(place)
    way = [root]
    while high - low > 1:
        left, right = halves_of(parts.part(way[-1]))
        middle = (low + high) // 2
        if place < middle:
            high = middle
            way.append(left)
        else:
            low = middle
            way.append(right)
    return way
