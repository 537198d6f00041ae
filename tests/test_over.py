"""[100], [101] Rows of any way by its word, and rows that go over to another way."""

import unittest

from makeskept import over
from makeskept.errors import Elder, NoMake, NoRow, NoWay
from makeskept.lined import Lined
from makeskept.over import gone_over, of_way, way_words
from makeskept.turned import Turned
from tests.five import KINDS, WORDS, is_line, made_again, makes_of, makes_of_book, own_told, put_beside, scripted
from tests.five import some_deeds
from tests.test_rows import Whole
from tests.things import GREAT, need_refusal, need_too_many, no_rows, no_ways, no_words

MOST = 10 ** 30 - 1


class WaysTest(unittest.TestCase):
    """[100] The words of the ways, and new rows by them."""

    def test_the_words_in_their_order_a_new_list_each_time(self):
        words = way_words()
        self.assertEqual(words, WORDS)
        self.assertIs(words.__class__, list)
        words.append("whole")
        words[0] = "other"
        self.assertEqual(way_words(), WORDS)
        self.assertIs(of_way("plain", [1]).__class__, KINDS["plain"])
        need_refusal(self, NoWay, {"found": "whole"}, of_way, "whole", [1])

    def test_a_new_row_of_each_way(self):
        for word in WORDS:
            for worths in ([5, -7, 0], (MOST, -MOST), [0] * 16, [4]):
                rows = of_way(word, worths)
                self.assertIs(rows.__class__, KINDS[word])
                self.assertEqual((rows.way(), rows.size(), rows.makes(), rows.steps()), (word, len(worths), [0], 0))
                self.assertEqual(rows.row(0), list(worths))

    def test_two_rows_have_nothing_in_common(self):
        for word in WORDS:
            worths = [5, -7]
            one = of_way(word, worths)
            other = of_way(word, worths)
            worths[0] = 77
            one.put(0, 0, 6)
            self.assertEqual((other.makes(), other.row(0)), ([0], [5, -7]))

    def test_no_way_ahead_of_no_row(self):
        for word in no_words():
            for worths in ([5, -7], [], None, [True], word):
                need_refusal(self, NoWay, {"found": word}, of_way, word, worths)

    def test_no_row(self):
        for word in WORDS:
            for thing in no_rows():
                need_refusal(self, NoRow, {"found": thing}, of_way, word, thing)


class GoneOverTest(unittest.TestCase):
    """[101] Rows that go over to another way, or to their own one."""

    def check(self, book, rows, word):
        """The row that goes over is as it is to be, and the elder one stays."""
        ahead = makes_of(rows)
        other = gone_over(rows, word)
        self.assertIs(other.__class__, KINDS[word])
        self.assertIsNot(other, rows)
        expected = made_again(book, KINDS[word])
        self.assertEqual((other.steps(), other.room()), (expected.steps(), expected.room()))
        self.assertEqual(own_told(other), own_told(expected))
        self.assertEqual(makes_of(other), makes_of_book(book, word))
        for make in range(book.many()):
            writers = [book.writer(make, place) for place in range(book.size())]
            self.assertEqual([other.writer(make, place) for place in range(book.size())], writers)
        self.assertEqual(makes_of(rows), ahead)
        return other

    def run_over(self, beginning, lines):
        draws, book, ways = scripted(beginning, 0, lines)
        for _ in range(3):
            some_deeds(draws, book, ways, 20, lines)
            for rows in list(ways.values()):
                for word in WORDS:
                    if word != "lined" or is_line(book):
                        self.check(book, rows, word)
            # Rows that went over go on in the place of the others.
            words = sorted(ways, key=WORDS.index)
            ways = {word: gone_over(ways[words[at - 1]], word) for at, word in enumerate(words)}
        for word, rows in ways.items():
            self.assertEqual(makes_of(rows), makes_of_book(book, word))

    def test_trees(self):
        for beginning in range(700, 707):
            self.run_over(beginning, False)

    def test_lines(self):
        for beginning in range(720, 726):
            self.run_over(beginning, True)

    def test_a_new_row_alone(self):
        for rows in put_beside([5, -7], [], lines=True).values():
            for word in WORDS:
                other = gone_over(rows, word)
                self.assertEqual(makes_of(other), (word, 2, [0], [(None, None)], {0: [5, -7]}))
                self.assertEqual(other.steps(), 0)

    def test_make_0_let_go_and_writes_that_are_not_needed(self):
        puts = [(0, 0, 5), (1, 0, 6), (1, 1, 7), (0, 1, 4)]
        for rows in put_beside([1, 2], puts, gone=(0, 1, 4)).values():
            turned = gone_over(rows, "turned")
            self.assertEqual(turned.makes(), [2, 3])
            self.assertEqual([turned.copied().row(make) for make in (2, 3)], [[6, 2], [5, 7]])
            need_refusal(self, NoMake, {"found": 0}, turned.row, 0)
            turned = gone_over(rows, "turned")
            self.assertEqual((turned.at_hand(), turned.notes()), (1, {2: (0, 6, 1), 3: (1, 7, 1)}))
        for rows in put_beside([1], [(0, 0, 5), (1, 0, 6), (2, 0, 7)], gone=(1, 2), lines=True).values():
            turned = gone_over(rows, "turned")
            turned.bring(0)
            self.assertEqual(turned.notes(), {1: (0, 0, 0), 2: (0, 0, 1), 3: (0, 7, 2)})
            turned = gone_over(rows, "turned")
            rows.let_go(0)
            self.assertEqual(turned.makes(), [0, 3])
            self.assertEqual(turned.row(0), [1])

    def test_steps_are_those_of_puts_and_lettings_go(self):
        puts = [(0, 0, 5), (0, 1, 6), (1, 0, 7)]
        steps = {"plain": 3, "turned": 1 + 2 + 3, "copied": 6, "boxed": 3 + 1}
        for rows in put_beside([1, 2], puts, gone=(1,)).values():
            for _ in range(3):
                rows.row(3)
            for word, many in steps.items():
                self.assertEqual(gone_over(rows, word).steps(), many, word)

    def test_each_goes_its_own_way(self):
        for rows in put_beside([1, 2], [(0, 0, 5), (1, 1, 6)], lines=True).values():
            for word in WORDS:
                ahead = makes_of(rows)
                other = gone_over(rows, word)
                self.assertEqual(other.put(2, 0, 9), 3)
                other.let_go(1)
                self.assertEqual(makes_of(rows), ahead)
                self.assertEqual(other.row(3), [9, 6])
                again = makes_of(other)
                elder = rows.copied()
                self.assertEqual(elder.put(2, 1, 8), 3)
                elder.let_go(0)
                self.assertEqual(makes_of(other), again)

    def test_sixty_four_makes(self):
        for rows in put_beside([0, 0], [(at, at % 2, at) for at in range(63)], gone=range(5, 40), lines=True).values():
            for word in WORDS:
                other = gone_over(rows, word)
                self.assertEqual(makes_of(other)[1:], makes_of(rows)[1:])
                need_too_many(self, 65, other.put, 63, 0, 1)

    def test_no_way_of_what_is_no_row_then_of_the_word(self):
        for thing in no_ways():
            for word in ("plain", "lined", "other", None, thing):
                need_refusal(self, NoWay, {"found": thing}, gone_over, thing, word)
        for rows in put_beside([1, 2], [(0, 0, 5), (0, 1, 6)]).values():
            ahead = (makes_of(rows), rows.steps(), own_told(rows))
            for word in no_words() + [rows, [rows]]:
                need_refusal(self, NoWay, {"found": word}, gone_over, rows, word)
            self.assertEqual((makes_of(rows), rows.steps(), own_told(rows)), ahead)

    def test_elder_for_lined(self):
        owns = {(0, 0): 0, (0, 1, 1): 1, (0, 0, 2): 0, (0, 1, 2, 0): 0, (0, 1, 2, 1, 0): 1, (0, 1, 2, 3, 2, 0, 1): 2}
        for own_makes, elder in owns.items():
            puts = [(own, at % 2, at) for at, own in enumerate(own_makes)]
            for gone in ((), (0, 1)):
                for rows in put_beside([8, 9], puts, gone).values():
                    rows.row(rows.makes()[0])
                    ahead = (makes_of(rows), rows.steps(), own_told(rows))
                    need_refusal(self, Elder, {"found": elder}, gone_over, rows, "lined")
                    self.assertEqual((makes_of(rows), rows.steps(), own_told(rows)), ahead)

    def test_elder_is_told_also_of_makes_that_were_let_go(self):
        for rows in put_beside([8, 9], [(0, 0, 1), (1, 0, 2), (1, 0, 3), (3, 0, 4)], gone=(3, 4)).values():
            need_refusal(self, Elder, {"found": 1}, gone_over, rows, "lined")

    def test_lines_of_other_ways_go_over_to_the_lined_one(self):
        for word, rows in put_beside([8, 9], [(0, 0, 1), (1, 1, 2), (2, 0, 3)], gone=(1, 3), lines=True).items():
            other = gone_over(rows, "lined")
            self.assertIs(other.__class__, Lined)
            self.assertEqual(other.makes(), [0, 2])
            self.assertEqual([other.box(0), other.box(1)], [[(0, 8), (1, 1)], [(0, 9), (2, 2)]])
            need_refusal(self, Elder, {"found": 2}, other.put, 2, 0, 5)

    def test_rows_of_a_way_made_for_a_test_go_over(self):
        rows = Whole([1, 2, 3])
        rows.put_all(0, [(0, 5), (2, 6)])
        rows.let_go(1)
        for word in WORDS:
            self.assertEqual(gone_over(rows, word).row(2), [5, 2, 6])

    def test_the_elder_row_of_the_turned_way_may_be_gone_on_with(self):
        rows = Turned([1, 2])
        rows.put_all(0, [(0, 5), (1, 6)])
        other = gone_over(rows, "turned")
        self.assertEqual((rows.put(0, 0, GREAT % 7), other.put(2, 0, 4)), (3, 3))
        self.assertEqual((rows.row(3), other.row(3)), ([GREAT % 7, 2], [4, 6]))


class InterfaceTest(unittest.TestCase):
    def test_what_the_interface_lists_is_defined_in_the_file(self):
        for name in "way_words of_way gone_over".split():
            self.assertEqual(getattr(over, name).__module__, "makeskept.over")


if __name__ == "__main__":
    unittest.main()
