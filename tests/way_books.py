"""The books of the turned, the copied, the lined and the boxed way, by the words of the document alone."""

from tests.books import Book


def stretch_of(part):
    """The stretch that a part has."""
    return (part[1], part[1] + 1) if part[0] == "leaf" else (part[1], part[2])


class TurnedBook(Book):
    """[50] to [53] The turned way: notes are worked out from the make at hand and the makes that are not freed."""

    def begin(self):
        self.hand = 0
        self.gone = set()

    def brought(self, make):
        """How many steps the make at hand and this one are apart; this one is at hand."""
        apart = len(self.way(self.hand, make)) - 1
        self.hand = make
        return apart

    def bring(self, make):
        apart = self.brought(make)
        self.steps += apart
        return apart

    def put_steps(self, make, place):
        apart = self.brought(make)
        self.hand = self.many() - 1
        return apart + 1

    def ask_steps(self, make, low, high):
        return self.brought(make)

    def needed(self):
        """The makes that are kept or lie on the way between two kept ones."""
        pairs = [(one, other) for one in self.kept for other in self.kept if one <= other]
        return {make for one, other in pairs for make in self.way(one, other)}

    def freed(self, make):
        needed = self.needed()
        if self.hand not in needed:
            self.bring([number for number in self.way(self.hand, self.kept[-1]) if number in needed][0])
        freed = [number for number in range(self.many()) if number not in needed and number not in self.gone]
        self.gone.update(freed)
        return freed

    def notes(self):
        """The notes of all makes that are not freed, but that of the one at hand."""
        notes = {}
        for make in range(self.many()):
            if make not in self.gone and make != self.hand:
                toward = self.way(make, self.hand)[1]
                place = self.places[make if self.owns[make] == toward else toward]
                notes[make] = (place, self.rows[make][place], toward)
        return notes

    def room(self):
        return self.size() + len(self.notes())


class CopiedBook(Book):
    """[65] to [67] The copied way: all parts ever made are kept here, and the free ones are told from the roots."""

    def begin(self):
        self.parts = []
        self.roots = {0: self.laid(0, self.size())}
        self.kept_parts = self.in_use()

    def made(self, part):
        self.parts.append(part)
        return len(self.parts) - 1

    def laid(self, low, high):
        """The root of a stretch of make 0."""
        if high == low + 1:
            return self.made(("leaf", low, self.rows[0][low]))
        middle = (low + high) // 2
        left = self.laid(low, middle)
        right = self.laid(middle, high)
        return self.made(("fork", low, high, left, right))

    def redone(self, number, place, worth):
        """The root like this one, but for the worth."""
        part = self.parts[number]
        if part[0] == "leaf":
            return self.made(("leaf", place, worth))
        _, low, high, left, right = part
        if place < (low + high) // 2:
            left = self.redone(left, place, worth)
        else:
            right = self.redone(right, place, worth)
        return self.made(("fork", low, high, left, right))

    def put_steps(self, make, place):
        ahead = len(self.parts)
        self.roots[self.many() - 1] = self.redone(self.roots[make], place, self.rows[-1][place])
        self.kept_parts = self.in_use()
        return len(self.parts) - ahead

    def below(self, number):
        """The part, then all of its left half, then all of its right half."""
        part = self.parts[number]
        return [number] + ([] if part[0] == "leaf" else self.below(part[3]) + self.below(part[4]))

    def places_of(self, number):
        """The places of the part's stretch."""
        return range(*stretch_of(self.parts[number]))

    def ask_steps(self, make, low, high):
        asked = range(low, high)
        return len([part for part in self.below(self.roots[make]) if any(at in asked for at in self.places_of(part))])

    def in_use(self):
        return {part for make in self.kept for part in self.below(self.roots[make])}

    def freed(self, make):
        ahead = self.kept_parts
        self.kept_parts = self.in_use()
        return sorted(ahead - self.kept_parts)

    def pointers(self):
        """For each kept part how many kept forks have it as a half, and how many kept makes as their root."""
        pointing = [self.roots[make] for make in self.kept]
        for number in self.kept_parts:
            pointing += self.parts[number][3:]
        many = dict.fromkeys(self.kept_parts, 0)
        for number in pointing:
            many[number] += 1
        return many

    def room(self):
        return len(self.kept_parts)


class LinedBook(Book):
    """[71] The lined way: boxes are worked out from the writes that are needed."""

    def begin(self):
        self.writes = self.needed_writes()

    def box(self, place):
        return [(make, self.rows[make][place]) for at, make in sorted(self.writes) if at == place]

    def put_steps(self, make, place):
        self.writes = self.needed_writes()
        return 1

    def ask_steps(self, make, low, high):
        return sum(halvings([turn[0] for turn in self.box(place)], make) + 1 for place in range(low, high))

    def freed(self, make):
        ahead = self.writes
        self.writes = self.needed_writes()
        return sorted(ahead - self.writes)

    def room(self):
        return len(self.writes)


def halvings(stands, stand):
    """[70] How many of the rising stands are looked at till the last one is found that is not behind the stand."""
    looks = 0
    while len(stands) > 1:
        half = len(stands) // 2
        looks += 1
        stands = stands[half:] if stands[half] <= stand else stands[:half]
    return looks


class BoxedBook(Book):
    """[72] The boxed way: boxes are worked out from the writers of the kept makes in their order."""

    def begin(self):
        self.order = [0]
        self.writes = self.needed_writes()

    def runs(self, place):
        """The makes of each run of neighbours that have one writer of the place."""
        runs = []
        for make in self.order:
            if runs and self.writer(runs[-1][0], place) == self.writer(make, place):
                runs[-1].append(make)
            else:
                runs.append([make])
        return runs

    def box(self, place):
        return [(run[0], self.writer(run[0], place), self.rows[run[0]][place]) for run in self.runs(place)]

    def looks(self, make, place):
        """The steps that are counted when the make is looked for in the box."""
        stands = [self.order.index(run[0]) for run in self.runs(place)]
        return halvings(stands, self.order.index(make)) + 1

    def put_steps(self, make, place):
        steps = self.looks(make, place)
        self.order.insert(self.order.index(make) + 1, self.many() - 1)
        self.writes = self.needed_writes()
        return steps

    def ask_steps(self, make, low, high):
        return sum(self.looks(make, place) for place in range(low, high))

    def freed(self, make):
        self.order.remove(make)
        ahead = self.writes
        self.writes = self.needed_writes()
        return sorted(ahead - self.writes)

    def room(self):
        return sum(len(self.runs(place)) for place in range(self.size()))
