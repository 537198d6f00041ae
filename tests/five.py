"""Rows of the five ways with the same deeds beside each other, and a book that has them, too."""

from makeskept.boxed import Boxed
from makeskept.copied import Copied
from makeskept.lined import Lined
from makeskept.plain import Plain
from makeskept.turned import Turned
from tests.books import Book, done, script, some_deed

WORDS = ["plain", "turned", "copied", "lined", "boxed"]
KINDS = {"plain": Plain, "turned": Turned, "copied": Copied, "lined": Lined, "boxed": Boxed}


def beside(worths, lines=False):
    """A new row of each way by its word; of the lined way only where the makes are to be a line."""
    return {word: kind(worths) for word, kind in KINDS.items() if lines or word != "lined"}


def put_beside(worths, puts, gone=(), lines=False):
    """Rows of each way with these puts (make, place, worth), and then without these makes."""
    ways = beside(worths, lines)
    for rows in ways.values():
        for deed in puts:
            rows.put(*deed)
        for make in gone:
            rows.let_go(make)
    return ways


def some_deeds(draws, book, ways, many, lines):
    """So many more deeds of the book and of the rows of all ways."""
    for _ in range(many):
        name, arguments = some_deed(draws, book, lines)
        done(book, name, arguments)
        for rows in ways.values():
            getattr(rows, name)(*arguments)


def scripted(beginning, many, lines=False):
    """Draws, a book, and rows of each way with so many deeds."""
    draws, book = script(beginning, Book, lines)
    ways = beside(book.rows[0], lines)
    some_deeds(draws, book, ways, many, lines)
    return draws, book, ways


def pairs(draws, book, many):
    """So many pairs of kept makes at the most: all of them, or some."""
    if len(book.kept) ** 2 <= many:
        return [(one, other) for one in sorted(book.kept) for other in sorted(book.kept)]
    return [(draws.among(book.kept), draws.among(book.kept)) for _ in range(many)]


def nearest(book, one, other):
    """The last make that stands on both lines."""
    return [make for make in book.lines[one] if make in book.lines[other]][-1]


def makes_of(rows):
    """All that a row tells of its makes and their worths, asked of a copy; not its steps, nor what is at hand."""
    tree = rows.tree()
    makes = [(tree.own(make), rows.place_of(make)) for make in range(rows.many())]
    other = rows.copied()
    return rows.way(), rows.size(), rows.makes(), makes, {make: other.row(make) for make in other.makes()}


def makes_of_book(book, word):
    """The same, of a book."""
    kept = sorted(book.kept)
    return word, book.size(), kept, list(zip(book.owns, book.places)), {make: book.rows[make] for make in kept}


def is_line(book):
    """Whether each make was put on the one ahead of it."""
    return book.owns[1:] == list(range(book.many() - 1))


def own_told(rows):
    """What a row of its way tells of what it keeps."""
    places = range(rows.size())
    if rows.way() == "turned":
        return rows.at_hand(), rows.notes()
    if rows.way() == "copied":
        parts = {make: rows.parts_of(make) for make in rows.makes()}
        return parts, {number: rows.part(number) for make in parts for number in parts[make]}
    if rows.way() == "boxed":
        return rows.in_order(), [rows.box(place) for place in places]
    return [rows.box(place) for place in places] if rows.way() == "lined" else None


def made_again(book, kind):
    """[101] The row, or the book, of this kind that comes of a row with the book's makes: by puts, then lettings go."""
    needed = book.needed_writes()
    other = kind([worth if (place, 0) in needed else 0 for place, worth in enumerate(book.rows[0])])
    for make in range(1, book.many()):
        place = book.places[make]
        other.put(book.owns[make], place, book.rows[make][place] if (place, make) in needed else 0)
    for make in range(book.many()):
        if make not in book.kept:
            other.let_go(make)
    return other
