"""[46] The plain way, with [40] to [45] as of each way."""

import unittest

from makeskept.plain import Plain
from tests.books import PlainBook
from tests.ways import AllTests


class PlainTest(AllTests, unittest.TestCase):
    """What each way tells, of the plain way."""

    kind = Plain
    word = "plain"
    book = PlainBook


class PlainByHandTest(unittest.TestCase):
    """[46] Writes, room and steps."""

    def setUp(self):
        # Make 1 writes place 0 on make 0, 2 place 1 on 1, 3 place 0 on 1, 4 place 0 on 2, 5 place 2 on 0.
        self.rows = Plain([1, 2, 3])
        for deed in ((0, 0, 4), (1, 1, 5), (1, 0, 6), (2, 0, 7), (0, 2, 8)):
            self.rows.put(*deed)

    def test_a_put_counts_one_step_and_takes_room_for_one_write(self):
        self.assertEqual(self.rows.steps(), 5)
        self.assertEqual(self.rows.room(), 8)
        self.rows.put_all(4, [(0, 1), (1, 1), (1, 1)])
        self.assertEqual(self.rows.steps(), 8)
        self.assertEqual(self.rows.room(), 11)

    def test_each_make_up_to_the_writer_is_looked_at(self):
        looks = {(0, 0): 1, (0, 1): 1, (1, 0): 1, (1, 1): 2, (1, 2): 2, (2, 0): 2, (2, 1): 1, (2, 2): 3, (3, 0): 1,
                 (3, 1): 3, (4, 0): 1, (4, 1): 2, (4, 2): 4, (5, 0): 2, (5, 2): 1}
        for (make, place), steps in looks.items():
            ahead = self.rows.steps()
            self.rows.at(make, place)
            self.assertEqual(self.rows.steps() - ahead, steps, (make, place))

    def test_rows_and_stretches_are_asked_place_by_place(self):
        for ask, worths, steps in ((lambda: self.rows.row(4), [7, 5, 3], 7), (lambda: self.rows.row(0), [1, 2, 3], 3),
                                   (lambda: self.rows.stretch(4, 1, 3), [5, 3], 6),
                                   (lambda: self.rows.stretch(2, 0, 1), [4], 2)):
            ahead = self.rows.steps()
            self.assertEqual(ask(), worths)
            self.assertEqual(self.rows.steps() - ahead, steps)

    def test_writes_that_are_told_when_makes_are_let_go(self):
        steps = self.rows.steps()
        self.assertEqual(self.rows.let_go(1), [])
        self.assertEqual(self.rows.let_go(0), [])
        self.assertEqual(self.rows.let_go(2), [(0, 1)])
        self.assertEqual(self.rows.let_go(5), [(0, 0), (2, 5)])
        self.assertEqual(self.rows.room(), 5)
        self.assertEqual(self.rows.let_go(4), [(0, 4), (1, 2)])
        self.assertEqual(self.rows.room(), 3)
        self.assertEqual(self.rows.steps(), steps)
        self.assertEqual(self.rows.row(3), [6, 2, 3])

    def test_makes_that_were_let_go_are_looked_at_on_the_way_up(self):
        for make in (0, 1, 2):
            self.rows.let_go(make)
        ahead = self.rows.steps()
        self.assertEqual(self.rows.at(4, 2), 3)
        self.assertEqual(self.rows.steps() - ahead, 4)

    def test_writes_along_a_line(self):
        rows = Plain([1, 2])
        rows.put_all(0, [(0, 5), (1, 6), (0, 7), (1, 8)])
        told = [rows.let_go(make) for make in (4, 2, 1, 0)]
        self.assertEqual(told, [[(1, 4)], [], [(0, 1)], [(0, 0), (1, 0)]])
        self.assertEqual(rows.room(), 2)
        rows = Plain([1])
        rows.put_all(0, [(0, 5), (0, 6), (0, 7)])
        self.assertEqual([rows.let_go(make) for make in (3, 0, 2)], [[(0, 3)], [(0, 0)], [(0, 2)]])
        self.assertEqual(rows.room(), 1)

    def test_let_go_tells_tuples_in_a_new_list(self):
        told = self.rows.let_go(5)
        self.assertEqual(told, [(2, 5)])
        self.assertIs(told.__class__, list)
        self.assertIs(told[0].__class__, tuple)

    def test_a_long_line_asked_at_its_end(self):
        rows = Plain([1, 2])
        for make in range(63):
            rows.put(make, 0, make)
        ahead = rows.steps()
        self.assertEqual(rows.row(63), [62, 2])
        self.assertEqual(rows.steps() - ahead, 1 + 64)

    def test_what_the_interface_lists(self):
        self.assertEqual(Plain.__module__, "makeskept.plain")


if __name__ == "__main__":
    unittest.main()
