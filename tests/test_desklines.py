"""[110], [111] Lines that are read."""

import unittest

from makeskept import desklines
from makeskept.desklines import read_line
from makeskept.errors import NoLine
from tests.desk_forms import FORMS, GOOD, MOST, WRONG, told_of
from tests.texts import rearranged, spots
from tests.things import need_refusal, no_ways


def kinds(thing):
    """The kinds of a thing and of what is in it."""
    inner = [kinds(part) for part in thing] if isinstance(thing, (list, tuple)) else None
    return thing.__class__, inner


class ReadingTest(unittest.TestCase):
    """[110], [111] Each form, and what is none."""

    def check(self, line):
        """The line is read as the document tells it, or refused; told is whether it is read."""
        expected = told_of(line)
        if expected is None:
            need_refusal(self, NoLine, {"found": line}, read_line, line)
            return False
        told = read_line(line)
        self.assertEqual((told, kinds(told)), (expected, kinds(expected)), line)
        return True

    def test_a_line_of_each_form(self):
        for line, expected in GOOD.items():
            told = read_line(line)
            self.assertEqual((told, kinds(told)), (expected, kinds(expected)))
            self.assertTrue(self.check(line))
        self.assertEqual({line.split(" ")[0] for line in GOOD}, set(FORMS))

    def test_what_is_no_line(self):
        for line in WRONG:
            need_refusal(self, NoLine, {"found": line}, read_line, line)

    def test_numbers(self):
        wrong = ["00", "01", "-0", "-01", "+1", "--1", "-", "1-", "1.0", "1_0", "0x1", "1e3", "True", "x", "/"]
        wrong += [str(10 ** 30), str(-10 ** 30), "9" * 31, "0" * 30, "1" * 40]
        for form in ("put # 1 5", "put 0 # 5", "put 0 1 #", "putall #", "putall 0 # 5", "putall 0 1 #", "row plain #",
                     "row plain 1 #", "at # 0", "all #", "part 1 0 #", "parted # 1", "carry 1 #", "letgo #",
                     "stood # 5", "stood 1 #", "putall 0 1 5 # 6", "row plain # 1", "part # 0 1", "part 0 # 1"):
            for number in wrong:
                line = form.replace("#", number)
                need_refusal(self, NoLine, {"found": line}, read_line, line)
            for number in (0, 1, -1, 16, 64, MOST, -MOST, 10 ** 29, -(10 ** 29)):
                self.assertTrue(self.check(form.replace("#", str(number))))

    def test_words_left_out_doubled_exchanged_and_put_in(self):
        for line in GOOD:
            if len(line) < 100:
                for other in rearranged(line, " "):
                    self.check(other)
                words = line.split(" ")
                for at in range(len(words) + 1):
                    for word in ("0", "-7", "x", "/", "makes", "keep", "abcdefghi", ":", "A"):
                        self.check(" ".join(words[:at] + [word] + words[at:]))
                        self.check(" ".join(words[:at] + [word] + words[at + 1:]))

    def test_one_sign_otherwise_at_any_spot(self):
        for line in GOOD:
            if len(line) < 50:
                for other in spots(line, [" ", "\n", "0", "1", "-", "/", "a", "A", "  ", " 0", " /"]):
                    self.check(other)

    def test_blanks_ahead_behind_and_twice(self):
        for line in GOOD:
            for other in (" " + line, line + " ", "  " + line, line + "  ", line.replace(" ", "  ", 1)):
                if other != line:
                    need_refusal(self, NoLine, {"found": other}, read_line, other)

    def test_line_feeds(self):
        for line in GOOD:
            for other in ("\n" + line, line + "\n", line.replace(" ", "\n", 1), line.replace(" ", " \n ", 1)):
                if other != line:
                    need_refusal(self, NoLine, {"found": other}, read_line, other)

    def test_seven_hundred_signs_and_one_more(self):
        for begin, end in (("row plain", " 1"), ("putall 0", " 0 1"), ("read plain", " / a"), ("over ", "x"),
                           ("row plain 10", " 1"), ("read plain a", " /"), ("read ", "x")):
            for many in range(690, 711):
                line = (begin + end * 700)[:many]
                self.check(line)
        self.assertEqual(read_line("over " + "x" * 695), ("over", "x" * 695))
        line = "over " + "x" * 696
        self.assertEqual(len(line), 701)
        need_refusal(self, NoLine, {"found": line}, read_line, line)
        self.assertEqual(read_line("row p" + " 1" * 347 + "2"), ("row", "p", [1] * 346 + [12]))
        self.assertEqual(read_line("read p" + " /" * 347), ("read", "p", "\n" * 347))

    def test_names(self):
        for first in ("keep", "take", "drop"):
            for many in range(1, 9):
                self.assertEqual(read_line(f"{first} " + "zab"[many % 3] * many), (first, "zab"[many % 3] * many))
            for letter in "abcdefghijklmnopqrstuvwxyz":
                self.assertEqual(read_line(f"{first} {letter}q"), (first, letter + "q"))
            for number in range(32, 127):
                if chr(number) not in "abcdefghijklmnopqrstuvwxyz ":
                    for name in (chr(number), "a" + chr(number), chr(number) + "a"):
                        line = f"{first} {name}"
                        need_refusal(self, NoLine, {"found": line}, read_line, line)
            line = first + " " + "a" * 9
            need_refusal(self, NoLine, {"found": line}, read_line, line)

    def test_things_that_are_no_texts(self):
        for thing in no_ways() + [["makes"], ("makes",), {"makes": 1}, "x" * 701, "makes " * 6000, " " * 40000]:
            need_refusal(self, NoLine, {"found": thing}, read_line, thing)

    def test_lists_that_are_told_are_new_ones(self):
        for line in ("row boxed 5 -7 0", "putall 0 1 5 2 -7"):
            told = read_line(line)
            told[2].append("more")
            told[2][0] = "other"
            self.assertEqual(read_line(line), GOOD[line])


class InterfaceTest(unittest.TestCase):
    def test_what_the_interface_lists_is_defined_in_the_file(self):
        self.assertEqual(read_line.__module__, "makeskept.desklines")
        self.assertIs(desklines.read_line, read_line)


if __name__ == "__main__":
    unittest.main()
