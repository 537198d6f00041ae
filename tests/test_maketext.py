"""[102] to [104] Texts of makes, written and read."""

import re
import unittest

from makeskept import maketext
from makeskept.errors import Elder, NoText, NoWay
from makeskept.maketext import make_text, read_makes
from makeskept.over import gone_over
from tests.books import Book, done, script, some_deed
from tests.five import KINDS, WORDS, beside, is_line, makes_of, makes_of_book, own_told, put_beside, scripted
from tests.five import some_deeds
from tests.test_rows import Whole
from tests.texts import NUMBER, rearranged, spots
from tests.things import need_refusal, need_too_many, no_ways, no_words

MOST = 10 ** 30 - 1
COUNT = "(?:0|[1-9][0-9]?)"
END = f"( gone| :(?: {NUMBER})*)"


def text_of(book):
    """The text of a book's makes, by the words of the document."""
    lines = [f"size {book.size()}"]
    for make in range(book.many()):
        put = f" of {book.owns[make]} at {book.places[make]}" if make else ""
        row = " : " + " ".join(str(worth) for worth in book.rows[make]) if make in book.kept else " gone"
        lines.append(f"{make}{put}{row}")
    return "\n".join(lines)


def read_of(text):
    """The own makes, the places and the kept rows that a text tells, None where it is no text of makes."""
    first, *lines = text.split("\n")
    found = re.fullmatch("size ([1-9]|1[0-6])", first)
    if not found or not 1 <= len(lines) <= 64:
        return None
    size = int(found[1])
    owns, places, rows, writers = [], [], {}, []
    for make, line in enumerate(lines):
        found = re.fullmatch(f"{make} of ({COUNT}) at ({COUNT}){END}" if make else f"()()0{END}", line)
        if not found or make and (int(found[1]) >= make or int(found[2]) >= size):
            return None
        owns.append(int(found[1]) if make else None)
        places.append(int(found[2]) if make else None)
        writers.append([make if not make or at == places[make] else writers[owns[make]][at] for at in range(size)])
        if found[3] != " gone":
            rows[make] = [int(word) for word in found[3].split()[1:]]
            if len(rows[make]) != size:
                return None
    worths = {}
    for make, row in rows.items():
        for place, worth in enumerate(row):
            if worths.setdefault((place, writers[make][place]), worth) != worth:
                return None
    return (owns, places, rows) if rows else None


class WritingTest(unittest.TestCase):
    """[102] Texts of rows."""

    def told(self, ways):
        """The text that all ways tell, which is the same."""
        found = [make_text(rows) for rows in ways.values()]
        self.assertEqual(found, [found[0]] * len(found))
        self.assertIs(found[0].__class__, str)
        return found[0]

    def test_by_hand(self):
        self.assertEqual(self.told(beside([5, -7], True)), "size 2\n0 : 5 -7")
        ways = put_beside([5, -7], [(0, 1, 3), (0, 0, -MOST)], gone=(1,))
        self.assertEqual(self.told(ways), f"size 2\n0 : 5 -7\n1 of 0 at 1 gone\n2 of 0 at 0 : -{MOST} -7")
        ways = put_beside([5, -7], [(0, 1, 0), (1, 0, MOST)], gone=(0, 1), lines=True)
        self.assertEqual(self.told(ways), f"size 2\n0 gone\n1 of 0 at 1 gone\n2 of 1 at 0 : {MOST} 0")
        self.assertEqual(self.told(put_beside([0], [(0, 0, -1)], lines=True)), "size 1\n0 : 0\n1 of 0 at 0 : -1")

    def test_rows_of_each_size_and_ten_makes_and_more(self):
        for size in range(1, 17):
            worths = [at * 10 ** at for at in range(size)]
            row = " ".join(str(worth) for worth in worths)
            self.assertEqual(self.told(beside(worths, True)), f"size {size}\n0 : {row}")
        ways = put_beside([0] * 16, [(at, 15 - at, at) for at in range(12)], lines=True)
        text = self.told(ways)
        self.assertEqual(text.split("\n")[12], "11 of 10 at 5 : 0 0 0 0 0 10 9 8 7 6 5 4 3 2 1 0")

    def test_scripts(self):
        for beginning in range(800, 812):
            _, book, ways = scripted(beginning, 50, beginning % 2 == 0)
            aheads = [makes_of(rows) for rows in ways.values()]
            self.assertEqual(self.told(ways), text_of(book))
            self.assertEqual([makes_of(rows) for rows in ways.values()], aheads)

    def test_no_way(self):
        for thing in no_ways():
            need_refusal(self, NoWay, {"found": thing}, make_text, thing)

    def test_rows_of_a_way_made_for_a_test_are_written(self):
        rows = Whole([1, 2])
        rows.put_all(0, [(0, 5), (1, 6)])
        rows.let_go(0)
        self.assertEqual(make_text(rows), "size 2\n0 gone\n1 of 0 at 0 : 5 2\n2 of 1 at 1 : 5 6")


class ReadingTest(unittest.TestCase):
    """[103], [104] Texts that were written are read."""

    def test_by_hand(self):
        for word in WORDS:
            rows = read_makes("size 2\n0 : 5 -7\n1 of 0 at 1 gone\n2 of 1 at 0 : 4 8", word)
            self.assertEqual(makes_of(rows), (word, 2, [0, 2], [(None, None), (0, 1), (1, 0)], {0: [5, -7], 2: [4, 8]}))
            self.assertIs(rows.__class__, KINDS[word])
            self.assertEqual(read_makes("size 1\n0 : 0", word).row(0), [0])

    def test_read_by_each_way_and_written_again(self):
        for beginning in range(820, 835):
            draws, book, _ = scripted(beginning, 40, beginning % 2 == 0)
            text = text_of(book)
            ways = {}
            for word in WORDS:
                if word == "lined" and not is_line(book):
                    elder = [own for at, own in enumerate(book.owns[1:]) if own != at][0]
                    need_refusal(self, Elder, {"found": elder}, read_makes, text, word)
                    continue
                rows = read_makes(text, word)
                ways[word] = rows
                self.assertEqual(makes_of(rows), makes_of_book(book, word))
                self.assertEqual(make_text(rows.copied()), text)
            lines = "lined" in ways
            for _ in range(5):
                some_deeds(draws, book, ways, 6, lines)
                for word, rows in ways.items():
                    self.assertEqual(make_text(rows.copied()), text_of(book), word)

    def test_made_as_a_row_that_goes_over(self):
        for beginning in range(840, 850):
            _, _, ways = scripted(beginning, 40, True)
            for rows in ways.values():
                text = make_text(rows)
                for word in WORDS:
                    read = read_makes(text, word)
                    over = gone_over(rows, word)
                    self.assertEqual((read.steps(), read.room()), (over.steps(), over.room()))
                    self.assertEqual(own_told(read), own_told(over))

    def test_the_longest_text(self):
        puts = [(at, at % 16, -MOST + at) for at in range(63)]
        rows = put_beside([-MOST] * 16, puts, lines=True)["boxed"]
        text = make_text(rows)
        self.assertGreater(len(text), 33000)
        for word in WORDS:
            read = read_makes(text, word)
            self.assertEqual(make_text(read), text)
            need_too_many(self, 65, read.put, 63, 0, 1)

    def test_each_text_tells_a_row_of_its_own(self):
        text = "size 1\n0 : 0"
        one = read_makes(text, "boxed")
        other = read_makes(text, "boxed")
        one.put(0, 0, 5)
        self.assertEqual((one.many(), other.many()), (2, 1))


TEXTS = (
    "size 2\n0 : 5 -7\n1 of 0 at 1 gone\n2 of 1 at 0 : 4 8",
    "size 1\n0 gone\n1 of 0 at 0 : 0",
    "size 3\n0 : 0 10 2\n1 of 0 at 2 : 0 10 -1\n2 of 1 at 0 : 5 10 -1\n3 of 1 at 0 : 10 10 -1",
    "\n".join(["size 2", "0 : 1 1"] + [f"{at} of {at - 1} at 1 gone" for at in range(1, 11)] + ["11 of 3 at 1 : 1 2"]),
    "size 11\n0 : 0 1 2 3 4 5 6 7 8 9 10\n1 of 0 at 10 : 0 1 2 3 4 5 6 7 8 9 0",
)


class NoTextTest(unittest.TestCase):
    """[103] What is not written so by any row."""

    def check(self, text):
        """The text is read as the document tells it, or refused; told is whether it is read."""
        expected = read_of(text)
        if expected is None:
            for word in ("plain", "boxed"):
                need_refusal(self, NoText, {"found": text}, read_makes, text, word)
            return False
        rows = read_makes(text, "plain")
        tree = rows.tree()
        makes = range(rows.many())
        found = [tree.own(make) for make in makes], [rows.place_of(make) for make in makes]
        self.assertEqual(found + ({make: rows.row(make) for make in rows.makes()},), expected, text)
        self.assertEqual(make_text(rows), text)
        return True

    def test_the_texts_themselves(self):
        for text in TEXTS:
            self.assertTrue(self.check(text))

    def test_one_thing_otherwise_at_any_place(self):
        things = [" ", "\n", "0", "1", "2", "7", "-", ":", "a", "g", "+", "_", ".", "/", " :", " 0", " gone", "\n\n"]
        for text in TEXTS:
            told = [self.check(other) for other in spots(text, things) if other != text]
            self.assertGreater(told.count(False), 300)
            self.assertGreater(told.count(True), 5)

    def test_words_and_lines_left_out_twice_or_exchanged(self):
        for text in TEXTS:
            for between in (" ", "\n", "of", "at"):
                for other in rearranged(text, between):
                    self.check(other)

    def test_numbers(self):
        for number in ("00", "-0", "01", "-01", "+1", "1.0", "1_0", "", " ", "-", "--1", "1-", "0x1", "1e3", "True"):
            for text in (f"size {number}\n0 : 5", f"size 1\n0 : {number}", f"size 1\n{number} : 5"):
                need_refusal(self, NoText, {"found": text}, read_makes, text, "plain")
            for own, place in ((number, "0"), ("0", number)):
                text = f"size 1\n0 : 5\n1 of {own} at {place} : 5"
                need_refusal(self, NoText, {"found": text}, read_makes, text, "plain")
        for worth in (10 ** 30, -10 ** 30, 10 ** 31, 10 ** 39):
            text = f"size 2\n0 : 5 {worth}"
            need_refusal(self, NoText, {"found": text}, read_makes, text, "plain")
        for worth in (MOST, -MOST, 0, -1):
            self.assertEqual(read_makes(f"size 2\n0 : 5 {worth}", "plain").row(0), [5, worth])

    def test_sizes(self):
        for size in (-1, 0, 17, 18, 160, 10 ** 30):
            for many in (0, 1, 16, 17):
                text = f"size {size}\n0 :" + " 5" * many
                need_refusal(self, NoText, {"found": text}, read_makes, text, "plain")
        for size in range(1, 17):
            for many in range(18):
                self.assertIs(self.check(f"size {size}\n0 :" + " 5" * many), size == many)

    def test_how_many_makes(self):
        for text in ("size 1", "size 1\n", "", "\n", "0 : 5", "size 1\n\n0 : 5", "size 1\n0 : 5\n"):
            need_refusal(self, NoText, {"found": text}, read_makes, text, "plain")
        lines = ["size 1", "0 : 5"] + [f"{at} of {at - 1} at 0 : {at}" for at in range(1, 65)]
        self.assertTrue(self.check("\n".join(lines[:65])))
        self.assertFalse(self.check("\n".join(lines)))
        self.assertFalse(self.check("\n".join(lines).replace("64 of 63 at 0 : 64", "64 of 63 at 0 gone")))

    def test_makes_out_of_their_turn_and_on_themselves_or_later_ones(self):
        wrong = ((1, 1, 0), (1, 2, 0), (1, 64, 0), (2, 0, 0), (0, 0, 0), (1, 0, 2), (1, 0, 16), (1, -1, 0), (1, 0, -1))
        for make, own, place in wrong:
            self.assertFalse(self.check(f"size 2\n0 : 5 6\n{make} of {own} at {place} : 5 6"))
            self.assertFalse(self.check(f"size 2\n0 : 5 6\n{make} of {own} at {place} gone"))
        self.assertFalse(self.check("size 1\n0 : 5\n2 of 0 at 0 : 6\n1 of 0 at 0 : 7"))
        self.assertTrue(self.check("size 1\n0 : 5\n1 of 0 at 0 : 6\n2 of 0 at 0 : 7"))

    def test_one_make_is_kept_at_least(self):
        for lines in ([], ["1 of 0 at 0 gone"], ["1 of 0 at 0 gone", "2 of 1 at 0 gone", "3 of 0 at 0 gone"]):
            text = "\n".join(["size 1", "0 gone"] + lines)
            need_refusal(self, NoText, {"found": text}, read_makes, text, "plain")

    def test_one_writer_and_unlike_worths(self):
        for text in (
            "size 2\n0 : 5 6\n1 of 0 at 0 : 7 8",
            "size 2\n0 : 5 6\n1 of 0 at 1 : 7 8",
            "size 2\n0 gone\n1 of 0 at 0 : 7 8\n2 of 0 at 0 : 7 9",
            "size 2\n0 gone\n1 of 0 at 0 gone\n2 of 1 at 1 : 7 8\n3 of 1 at 1 : 6 8",
            "size 1\n0 : 5\n1 of 0 at 0 gone\n2 of 0 at 0 : 6\n3 of 2 at 0 gone\n4 of 2 at 0 : 7\n5 of 0 at 0 : 5 5",
            "size 2\n0 : 5 6\n1 of 0 at 1 gone\n2 of 1 at 0 : 4 6\n3 of 1 at 0 : 4 7",
        ):
            self.assertFalse(self.check(text))
        for text in (
            "size 2\n0 : 5 6\n1 of 0 at 0 : 7 6",
            "size 2\n0 : 5 6\n1 of 0 at 0 : 5 6",
            "size 2\n0 gone\n1 of 0 at 0 : 7 8\n2 of 0 at 0 : 6 8",
            "size 2\n0 : 5 6\n1 of 0 at 1 gone\n2 of 1 at 0 : 4 6\n3 of 1 at 0 : 4 6",
            "size 2\n0 : 5 6\n1 of 0 at 1 gone\n2 of 1 at 0 : 4 7\n3 of 1 at 0 : 3 7",
        ):
            self.assertTrue(self.check(text))

    def test_worths_otherwise_in_texts_of_scripts(self):
        refused = 0
        for beginning in range(860, 868):
            draws, book = script(beginning, Book, False)
            for _ in range(25):
                done(book, *some_deed(draws, book, False))
            lines = text_of(book).split("\n")
            for make in book.kept:
                for place in range(book.size()):
                    row = [str(worth + (at == place)) for at, worth in enumerate(book.rows[make])]
                    other = list(lines)
                    other[make + 1] = lines[make + 1].partition(":")[0] + ": " + " ".join(row)
                    refused += not self.check("\n".join(other))
        self.assertGreater(refused, 100)

    def test_things_that_are_no_texts(self):
        rows = KINDS["plain"]([5])
        things = [thing for thing in no_ways() if thing != "size 1\n0 : 4"]
        things += ["x" * 40000, " " * 40000, "\n" * 40000, "size 1\n0 :" + " 4" * 19000]
        for thing in things + [rows, ["size 1", "0 : 4"]]:
            for word in ("plain", "lined", "other", None):
                need_refusal(self, NoText, {"found": thing}, read_makes, thing, word)


class OrderOfRefusalsTest(unittest.TestCase):
    """[103] NoText ahead of NoWay, ahead of Elder."""

    def test_no_text_ahead_of_no_way(self):
        for word in no_words():
            for text in ("", "size 1\n0 gone", None, "size 1\n0 : 4\n1 of 0 at 0 : 4 4"):
                need_refusal(self, NoText, {"found": text}, read_makes, text, word)
            need_refusal(self, NoWay, {"found": word}, read_makes, "size 1\n0 : 4", word)
            text = "size 1\n0 : 4\n1 of 0 at 0 : 5\n2 of 0 at 0 : 6"
            need_refusal(self, NoWay, {"found": word}, read_makes, text, word)

    def test_no_text_ahead_of_elder(self):
        text = "size 1\n0 : 4\n1 of 0 at 0 : 5\n2 of 0 at 0 gone\n3 of 1 at 0 : 7"
        need_refusal(self, Elder, {"found": 0}, read_makes, text, "lined")
        text += " 8"
        need_refusal(self, NoText, {"found": text}, read_makes, text, "lined")

    def test_elder_of_the_own_make_of_the_least_make_that_is_not_on_the_one_ahead(self):
        for owns, elder in (((0, 0), 0), ((0, 1, 1, 0), 1), ((0, 1, 2, 0, 1), 0), ((0, 1, 2, 3, 2), 2)):
            lines = ["size 1", "0 : 7"] + [f"{at + 1} of {own} at 0 : {at}" for at, own in enumerate(owns)]
            need_refusal(self, Elder, {"found": elder}, read_makes, "\n".join(lines), "lined")
            lines = ["size 1", "0 : 7"] + [f"{at + 1} of {own} at 0 gone" for at, own in enumerate(owns)]
            need_refusal(self, Elder, {"found": elder}, read_makes, "\n".join(lines), "lined")


class InterfaceTest(unittest.TestCase):
    def test_what_the_interface_lists_is_defined_in_the_file(self):
        for name in "make_text read_makes".split():
            self.assertEqual(getattr(maketext, name).__module__, "makeskept.maketext")


if __name__ == "__main__":
    unittest.main()
