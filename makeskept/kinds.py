"""The kinds of values: whole numbers, worths, a row's worths, changes of a row, and worths as texts."""

from makeskept.errors import NoNumber, NoWorth

MOST_FIGURES = 30
MOST_WORTH = 10 ** 30 - 1
MOST_PLACES = 16
MOST_CHANGES = 20
FIGURES = "0123456789"


def is_whole(thing, low, high):
    """Whether the thing is a whole number from low to high, both counted."""
    # Python takes a truth for an int, here it is no number.
    return isinstance(thing, int) and not isinstance(thing, bool) and low <= thing <= high


def is_worth(thing):
    """Whether the thing is a whole number of at most thirty figures."""
    return is_whole(thing, -MOST_WORTH, MOST_WORTH)


def is_worths(thing):
    """Whether the thing is a list or a tuple of 1 to 16 worths."""
    if not isinstance(thing, (list, tuple)) or not 1 <= len(thing) <= MOST_PLACES:
        return False
    return all([is_worth(worth) for worth in thing])


def is_changes(thing, size):
    """Whether the thing is a list or a tuple of at most 20 changes of a row with so many places."""
    if not isinstance(thing, (list, tuple)) or len(thing) > MOST_CHANGES:
        return False
    return all([_is_change(change, size) for change in thing])


def _is_change(thing, size):
    if not isinstance(thing, tuple) or len(thing) != 2:
        return False
    return is_whole(thing[0], 0, size - 1) and is_worth(thing[1])


def worth_text(worth):
    """The worth, plainly written."""
    if not is_worth(worth):
        raise NoWorth(worth)
    return str(worth)


def read_worth(text):
    """The worth that is plainly written in the text."""
    if not _is_worth_text(text):
        raise NoNumber(text)
    return int(text)


def read_worths(words):
    """The worths that are plainly written in the words, one in each; None where some word is no text of a worth."""
    if not all([_is_worth_text(word) for word in words]):
        return None
    return [read_worth(word) for word in words]


def _is_worth_text(thing):
    if not isinstance(thing, str):
        return False
    figures = thing[1:] if thing.startswith("-") else thing
    if not 1 <= len(figures) <= MOST_FIGURES:
        return False
    # int() reads blanks, signs and underscores, too, so each sign is looked at here.
    if not all([sign in FIGURES for sign in figures]):
        return False
    return figures[0] != "0" or thing == "0"
