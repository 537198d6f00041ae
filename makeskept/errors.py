"""The refusals: each is an error of a class of its own, and has the very things it was made of."""


class MakesError(ValueError):
    """Any refusal, made of a text."""


class NoRow(MakesError):
    """What is handed in are no worths of a row."""

    def __init__(self, found):
        super().__init__("these are no worths of a row")
        self.found = found


class NoWorth(MakesError):
    """What is handed in is no worth."""

    def __init__(self, found):
        super().__init__("this is no worth")
        self.found = found


class NoPlace(MakesError):
    """What is handed in is no place."""

    def __init__(self, found):
        super().__init__("this is no place")
        self.found = found


class NoStretch(MakesError):
    """The two that are handed in are no stretch."""

    def __init__(self, low, high):
        super().__init__("these two are no stretch")
        self.low = low
        self.high = high


class NoMake(MakesError):
    """What is handed in is no number of a make."""

    def __init__(self, found):
        super().__init__("this is no make")
        self.found = found


class NoMark(MakesError):
    """What is handed in is no number of a mark that stands."""

    def __init__(self, found):
        super().__init__("this is no mark that stands")
        self.found = found


class NoPart(MakesError):
    """What is handed in is no number of a part."""

    def __init__(self, found):
        super().__init__("this is no part")
        self.found = found


class NoNumber(MakesError):
    """What is handed in is no such number as is asked for."""

    def __init__(self, found):
        super().__init__("this is no such number")
        self.found = found


class NoWay(MakesError):
    """What is handed in is no way, or no row of a way."""

    def __init__(self, found):
        super().__init__("this is no way")
        self.found = found


class NoChanges(MakesError):
    """What is handed in are no changes of a row."""

    def __init__(self, found):
        super().__init__("these are no changes")
        self.found = found


class NoText(MakesError):
    """What is handed in is no text of makes."""

    def __init__(self, found):
        super().__init__("this is no text of makes")
        self.found = found


class NoLine(MakesError):
    """What is handed in is no line that a desk takes."""

    def __init__(self, found):
        super().__init__("this is no line for a desk")
        self.found = found


class NoName(MakesError):
    """No row is kept by the name that is handed in."""

    def __init__(self, found):
        super().__init__("no row is kept by this name")
        self.found = found


class TooMany(MakesError):
    """There would be more than there may be."""

    def __init__(self, count):
        super().__init__("there would be too many")
        self.count = count


class Alone(MakesError):
    """The one that is handed in is the last one there is."""

    def __init__(self, found):
        super().__init__("there is no other one")
        self.found = found


class Elder(MakesError):
    """The make that is handed in is not the newest one."""

    def __init__(self, found):
        super().__init__("this is not the newest make")
        self.found = found


class Clash(MakesError):
    """At some places the worth is not the one that was looked for."""

    def __init__(self, places):
        super().__init__("the worths clash at some places")
        self.places = places
