"""[83] to [85] What parts two makes turned about and put on a make, and what a make has of its own carried."""

import copy
import unittest

from makeskept import carrying
from makeskept.carrying import carried, put_on, turned_about
from makeskept.errors import Clash, Elder, MakesError, NoChanges, NoMake, NoWay
from makeskept.parting import is_parting, parted
from tests.five import beside, makes_of, nearest, pairs, put_beside, scripted, some_deeds
from tests.test_rows import Whole
from tests.things import GREAT, need_refusal, need_too_many, no_makes, no_partings, no_ways

MOST = 10 ** 30 - 1


def need_clash(case, places, call, *arguments):
    """The call is refused with Clash of these places, a list of numbers."""
    with case.assertRaises(MakesError) as caught:
        call(*arguments)
    case.assertIs(caught.exception.__class__, Clash)
    case.assertIs(caught.exception.places.__class__, list)
    case.assertEqual([place.__class__ for place in caught.exception.places], [int] * len(places))
    case.assertEqual(caught.exception.places, places)


class TurnedAboutTest(unittest.TestCase):
    """[83] Parting changes turned about."""

    def test_by_hand(self):
        changes = [(0, 1, 2), (3, -5, MOST), (15, 0, -MOST)]
        self.assertEqual(turned_about(changes), [(0, 2, 1), (3, MOST, -5), (15, -MOST, 0)])
        self.assertEqual(turned_about(((7, 1, 0),)), [(7, 0, 1)])
        self.assertEqual(turned_about([]), [])
        self.assertEqual(turned_about(()), [])

    def test_twice_is_as_at_first_and_what_is_handed_in_stays(self):
        for size in range(1, 17):
            for hand in (list, tuple):
                changes = hand([(at, at * at - 9, -at * 7 - 10) for at in range(size) if at % 5 != 2 or size < 4])
                ahead = copy.deepcopy(changes)
                told = turned_about(changes)
                self.assertEqual(changes, ahead)
                self.assertIs(told.__class__, list)
                self.assertIsNot(told, changes)
                self.assertEqual([change.__class__ for change in told], [tuple] * len(changes))
                self.assertEqual(told, [(place, behind, before) for place, before, behind in changes])
                self.assertIs(is_parting(told, size), True)
                self.assertEqual(turned_about(told), list(changes))

    def test_a_new_list_each_time(self):
        changes = [(0, 1, 2)]
        told = turned_about(changes)
        told.append((1, 2, 3))
        self.assertEqual(changes, [(0, 1, 2)])
        self.assertEqual(turned_about(changes), [(0, 2, 1)])

    def test_the_places_are_those_of_a_row_of_sixteen(self):
        self.assertEqual(turned_about([(15, 1, 2)]), [(15, 2, 1)])
        for thing in ([(16, 1, 2)], [(0, 1, 2), (16, 1, 2)], ((17, 1, 2),)):
            need_refusal(self, NoChanges, {"found": thing}, turned_about, thing)

    def test_any_other_thing(self):
        for thing in no_partings(16) + [thing for thing in no_ways() if thing not in ([], ())]:
            need_refusal(self, NoChanges, {"found": thing}, turned_about, thing)

    def test_what_parts_two_makes_turned_about_parts_them_the_other_way(self):
        draws, book, ways = scripted(500, 50)
        for rows in ways.values():
            for one, other in pairs(draws, book, 40):
                both, changes = parted(rows, one, other)
                self.assertEqual((both, turned_about(changes)), parted(rows, other, one))


def put_changes(book, make, changes):
    """What putting the changes (place, worth) on the make tells, and the row of it; None where it would be refused."""
    if book.many() + len(changes) > 64:
        return None
    return (book.put_all(make, changes) or [make])[-1]


class PutOnTest(unittest.TestCase):
    """[84] Parting changes put on a make."""

    def test_what_parts_two_makes_put_on_the_one_makes_the_row_of_the_other(self):
        for beginning in range(510, 520):
            draws, book, ways = scripted(beginning, 25)
            for count in range(12):
                one, other = draws.among(book.kept), draws.among(book.kept)
                changes = [(at, worth) for at, worth in enumerate(book.rows[other]) if worth != book.rows[one][at]]
                many = book.many()
                made = put_changes(book, one, changes)
                for word, rows in ways.items():
                    parting = parted(rows, one, other)[1]
                    handed = tuple(parting) if count % 2 else parting
                    if made is None:
                        need_too_many(self, many + len(changes), put_on, rows, one, handed)
                    else:
                        self.assertEqual(put_on(rows, one, handed), made, word)
                        self.assertEqual(rows.row(made), book.rows[other])
                    self.assertEqual(rows.many(), book.many())
                some_deeds(draws, book, ways, 2, False)
            for word, rows in ways.items():
                self.assertEqual(rows.copied().row(book.kept[-1]), book.rows[book.kept[-1]])
                self.assertEqual([rows.tree().own(make) for make in range(rows.many())], book.owns)
                self.assertEqual([rows.place_of(make) for make in range(rows.many())], book.places)

    def test_no_changes_tell_the_make_itself(self):
        for rows in put_beside([1, 2], [(0, 0, 5), (1, 1, 6)], lines=True).values():
            ahead = makes_of(rows)
            for make in range(3):
                self.assertEqual(put_on(rows, make, []), make)
                self.assertEqual(put_on(rows, make, ()), make)
            self.assertEqual(makes_of(rows), ahead)

    def test_one_make_for_each_change_by_rising_places(self):
        for rows in put_beside([1, 2, 3], [(0, 1, 5)], lines=True).values():
            changes = [(0, 1, 7), (1, 5, 2), (2, 3, MOST)]
            self.assertEqual(put_on(rows, 1, changes), 4)
            self.assertEqual(changes, [(0, 1, 7), (1, 5, 2), (2, 3, MOST)])
            self.assertEqual([rows.place_of(make) for make in (2, 3, 4)], [0, 1, 2])
            self.assertEqual([rows.tree().own(make) for make in (2, 3, 4)], [1, 2, 3])
            self.assertEqual([rows.row(make) for make in (2, 3, 4)], [[7, 5, 3], [7, 2, 3], [7, 2, MOST]])
            self.assertEqual(rows.row(1), [1, 5, 3])
            changes[0] = (0, 1, 77)
            self.assertEqual(rows.row(4), [7, 2, MOST])

    def test_rows_of_sixteen_places(self):
        for rows in put_beside([0] * 16, [(at, at, at + 1) for at in range(16)], lines=True).values():
            changes = [(at, at + 1, -at - 1) for at in range(16)]
            self.assertEqual(put_on(rows, 16, changes), 32)
            self.assertEqual(rows.row(32), [-at - 1 for at in range(16)])
            self.assertEqual(put_on(rows, 32, turned_about(changes)), 48)
            self.assertEqual(rows.row(48), rows.row(16))

    def test_clashes(self):
        for rows in put_beside([1, 2, 3, 4], [(0, 1, 5)], lines=True).values():
            ahead = makes_of(rows)
            need_clash(self, [0], put_on, rows, 1, [(0, 2, 9)])
            need_clash(self, [1], put_on, rows, 1, [(0, 1, 9), (1, 2, 9), (3, 4, 5)])
            need_clash(self, [0, 1, 3], put_on, rows, 1, ((0, 9, 1), (1, 2, 5), (2, 3, 7), (3, -4, 4)))
            need_clash(self, [1], put_on, rows, 1, [(1, 6, 5)])
            need_clash(self, [1], put_on, rows, 0, [(1, 5, 2)])
            self.assertEqual(makes_of(rows), ahead)
            self.assertEqual(put_on(rows, 1, [(1, 5, 2)]), 2)

    def test_no_makes(self):
        for rows in put_beside([1, 2], [(0, 0, 5), (1, 1, 6)], gone=(1,), lines=True).values():
            ahead = makes_of(rows)
            for make in [1] + no_makes(3):
                for changes in ([], [(0, 5, 6)], [(0, 99, 6)], None, [(2, 1, 2)]):
                    need_refusal(self, NoMake, {"found": make}, put_on, rows, make, changes)
            self.assertEqual(makes_of(rows), ahead)

    def test_no_changes(self):
        for size in (1, 2, 3, 16):
            for rows in put_beside([1] * size, [(0, 0, 5), (1, size - 1, 6)], lines=True).values():
                ahead = makes_of(rows)
                wrong = no_partings(size) + [[(0, 5)], [(0, 77, 1), (0, 1, 2)], [(0, 77, 77)], [(size, 77, 1)]]
                for changes in wrong:
                    for make in (2, 0):
                        need_refusal(self, NoChanges, {"found": changes}, put_on, rows, make, changes)
                self.assertEqual(makes_of(rows), ahead)

    def test_places_of_the_row_alone(self):
        for rows in put_beside([1, 2], [], lines=True).values():
            for changes in ([(2, 1, 5)], [(0, 1, 5), (15, 1, 2)]):
                self.assertEqual(turned_about(turned_about(changes)), changes)
                need_refusal(self, NoChanges, {"found": changes}, put_on, rows, 0, changes)

    def test_too_many_and_what_goes_ahead_of_it(self):
        for word, rows in put_beside([1, 2, 3], [(at, 0, at) for at in range(62)], lines=True).items():
            ahead = makes_of(rows)
            need_too_many(self, 65, put_on, rows, 62, [(0, 61, 1), (1, 2, 1)])
            need_too_many(self, 66, put_on, rows, 62, [(0, 61, 1), (1, 2, 1), (2, 3, 1)])
            need_clash(self, [1], put_on, rows, 62, [(0, 61, 1), (1, 1, 2), (2, 3, 1)])
            wrong = [(0, 61, 1), (1, 2, 1), (1, 2, 1)]
            need_refusal(self, NoChanges, {"found": wrong}, put_on, rows, 62, wrong)
            need_refusal(self, NoMake, {"found": 63}, put_on, rows, 63, wrong)
            self.assertEqual(makes_of(rows), ahead)
            self.assertEqual(put_on(rows, 62, [(1, 2, 1)]), 63)
            self.assertEqual(put_on(rows, 62, []), 62)
            need_too_many(self, 65, put_on, rows, 63, [(2, 3, 1)])

    def test_elder_in_the_lined_way_behind_clash_and_ahead_of_too_many(self):
        rows = put_beside([1, 2, 3], [(0, 0, 5), (1, 1, 6)], lines=True)["lined"]
        ahead = makes_of(rows)
        for make, before in ((0, 1), (1, 5)):
            need_refusal(self, Elder, {"found": make}, put_on, rows, make, [(0, before, 9)])
            need_clash(self, [0], put_on, rows, make, [(0, 77, 9)])
            self.assertEqual(put_on(rows, make, []), make)
        self.assertEqual(makes_of(rows), ahead)
        rows = put_beside([1, 2, 3], [(at, 0, at) for at in range(63)], lines=True)["lined"]
        need_refusal(self, Elder, {"found": 62}, put_on, rows, 62, [(0, 61, 1), (1, 2, 1)])
        need_too_many(self, 65, put_on, rows, 63, [(0, 62, 1)])

    def test_no_way_ahead_of_all_else(self):
        for thing in no_ways():
            for make, changes in ((0, []), (None, None), (99, [(0, 1, 2)])):
                need_refusal(self, NoWay, {"found": thing}, put_on, thing, make, changes)

    def test_rows_of_a_way_made_for_a_test_are_taken(self):
        rows = Whole([1, 2, 3])
        self.assertEqual(put_on(rows, 0, [(0, 1, 5), (2, 3, 6)]), 2)
        self.assertEqual(rows.row(2), [5, 2, 6])


def carrying_of(book, one, other):
    """What is to be put on the one, and the places that clash."""
    both = book.rows[nearest(book, one, other)]
    changes = []
    clashes = []
    for place, worth in enumerate(book.rows[other]):
        mine = book.rows[one][place]
        if worth != both[place]:
            if mine == both[place]:
                changes.append((place, worth))
            elif mine != worth:
                clashes.append(place)
    return changes, clashes


class CarriedTest(unittest.TestCase):
    """[85] What the other make has of its own is carried to the one."""

    def check(self, book, ways, one, other):
        """All ways tell what the book does, which is told."""
        both = nearest(book, one, other)
        changes, clashes = carrying_of(book, one, other)
        made = "refused"
        if both in book.kept and not clashes:
            many = book.many() + len(changes)
            made = put_changes(book, one, changes)
        for word, rows in ways.items():
            ahead = makes_of(rows)
            if both not in book.kept:
                need_refusal(self, NoMake, {"found": both}, carried, rows, one, other)
            elif clashes:
                need_clash(self, clashes, carried, rows, one, other)
            elif made is None:
                need_too_many(self, many, carried, rows, one, other)
            else:
                self.assertEqual(carried(rows, one, other), made, word)
                self.assertEqual(rows.row(made), book.rows[made])
                self.assertEqual(rows.many(), book.many())
            if made in (None, "refused", one):
                self.assertEqual(makes_of(rows), ahead)
        return made

    def test_scripts(self):
        told = []
        for beginning in range(530, 545):
            draws, book, ways = scripted(beginning, 20)
            for _ in range(15):
                told.append(self.check(book, ways, draws.among(book.kept), draws.among(book.kept)))
                some_deeds(draws, book, ways, 1, False)
            for word, rows in ways.items():
                self.assertEqual(list(zip(*makes_of(rows)[3])), [tuple(book.owns), tuple(book.places)])
        self.assertGreater(told.count("refused"), 20)
        self.assertGreater(len([made for made in told if isinstance(made, int)]), 60)

    def test_from_a_make_beneath(self):
        for rows in put_beside([1, 2, 3], [(0, 1, 5), (1, 0, 6), (2, 1, 7)]).values():
            self.assertEqual(carried(rows, 0, 3), 5)
            self.assertEqual([rows.row(make) for make in (4, 5)], [[6, 2, 3], [6, 7, 3]])
            self.assertEqual([rows.tree().own(make) for make in (4, 5)], [0, 4])
            self.assertEqual([rows.place_of(make) for make in (4, 5)], [0, 1])
            self.assertEqual(rows.row(0), [1, 2, 3])

    def test_from_a_make_above_and_from_itself_nothing_is_put(self):
        for rows in put_beside([1, 2, 3], [(0, 1, 5), (1, 0, 6), (2, 1, 7)], lines=True).values():
            ahead = makes_of(rows)
            for one in range(4):
                for other in range(one + 1):
                    self.assertEqual(carried(rows, one, other), one)
            self.assertEqual(makes_of(rows), ahead)

    def test_from_a_make_beside(self):
        puts = [(0, 1, 5), (1, 0, 6), (0, 2, 7), (3, 3, 8)]
        for rows in put_beside([1, 2, 3, 4], puts).values():
            self.assertEqual(carried(rows, 2, 4), 6)
            self.assertEqual(rows.row(6), [6, 5, 7, 8])
            self.assertEqual([rows.place_of(make) for make in (5, 6)], [2, 3])
            self.assertEqual(carried(rows, 4, 2), 8)
            self.assertEqual(rows.row(8), [6, 5, 7, 8])
            self.assertEqual([rows.place_of(make) for make in (7, 8)], [0, 1])

    def test_nothing_is_put_where_the_one_has_this_worth_already(self):
        puts = [(0, 1, 5), (0, 1, 5), (2, 0, 6)]
        for rows in put_beside([1, 2, 3], puts).values():
            ahead = makes_of(rows)
            self.assertEqual(carried(rows, 1, 2), 1)
            self.assertEqual(carried(rows, 2, 1), 2)
            self.assertEqual(carried(rows, 3, 1), 3)
            self.assertEqual(makes_of(rows), ahead)
            self.assertEqual(carried(rows, 1, 3), 4)
            self.assertEqual(rows.place_of(4), 0)
            self.assertEqual(rows.row(4), [6, 5, 3])

    def test_nothing_is_carried_of_what_was_put_back(self):
        puts = [(0, 1, 5), (1, 1, 2), (0, 1, 7), (3, 1, 2)]
        for rows in put_beside([1, 2, 3], puts).values():
            self.assertEqual(carried(rows, 3, 2), 3)
            self.assertEqual(carried(rows, 1, 4), 1)
            self.assertEqual(carried(rows, 4, 2), 4)
            # The one has the nearest make's worth again, so the other's own is put there.
            self.assertEqual(carried(rows, 4, 1), 5)
            self.assertEqual(rows.row(5), [1, 5, 3])

    def test_clashes(self):
        puts = [(0, 1, 5), (1, 0, 6), (2, 3, 9), (0, 1, 7), (4, 0, 8), (5, 2, 0), (6, 3, 9)]
        for rows in put_beside([1, 2, 3, 4], puts).values():
            ahead = makes_of(rows)
            need_clash(self, [0, 1], carried, rows, 3, 7)
            need_clash(self, [0, 1], carried, rows, 7, 3)
            need_clash(self, [1], carried, rows, 1, 4)
            need_clash(self, [1], carried, rows, 4, 3)
            need_clash(self, [1], carried, rows, 1, 6)
            self.assertEqual(makes_of(rows), ahead)

    def test_no_makes_of_the_one_of_the_other_then_of_the_nearest(self):
        puts = [(0, 1, 5), (1, 0, 6), (1, 0, 7), (1, 2, 8)]
        for rows in put_beside([1, 2, 3], puts, gone=(1,)).values():
            ahead = makes_of(rows)
            for make in [1] + no_makes(5):
                for other in (0, 2, 1, 5, None, True, -1):
                    need_refusal(self, NoMake, {"found": make}, carried, rows, make, other)
                for one in (0, 2, 3):
                    need_refusal(self, NoMake, {"found": make}, carried, rows, one, make)
            need_refusal(self, NoMake, {"found": 1}, carried, rows, 2, 3)
            need_refusal(self, NoMake, {"found": 1}, carried, rows, 2, 4)
            self.assertEqual(makes_of(rows), ahead)
            self.assertEqual(carried(rows, 2, 2), 2)
            self.assertEqual(carried(rows, 2, 0), 2)
            rows.let_go(3)
            # Both the other one and the nearest make were let go: the other one is told.
            need_refusal(self, NoMake, {"found": 3}, carried, rows, 2, 3)
            need_refusal(self, NoMake, {"found": 3}, carried, rows, 3, 2)

    def test_make_0_let_go(self):
        puts = [(0, 1, 5), (0, 0, 6), (1, 2, 7)]
        for rows in put_beside([1, 2, 3], puts, gone=(0,)).values():
            need_refusal(self, NoMake, {"found": 0}, carried, rows, 1, 2)
            self.assertEqual(carried(rows, 1, 3), 4)

    def test_then_as_putting_is(self):
        line = [(at, 0, at) for at in range(61)]
        for rows in put_beside([1, 2, 3], line + [(0, 1, 5), (62, 2, 6)]).values():
            ahead = makes_of(rows)
            need_too_many(self, 66, carried, rows, 61, 63)
            need_too_many(self, 65, carried, rows, 62, 61)
            self.assertEqual(carried(rows, 61, 0), 61)
            self.assertEqual(makes_of(rows), ahead)

    def test_clashes_go_ahead_of_too_many(self):
        line = [(at, 0, at + 1) for at in range(61)]
        for rows in put_beside([1, 2, 3], line + [(0, 1, 5), (62, 0, -6)]).values():
            need_clash(self, [0], carried, rows, 61, 63)
            need_clash(self, [0], carried, rows, 63, 61)

    def test_elder_in_the_lined_way(self):
        rows = put_beside([1, 2, 3], [(0, 1, 5), (1, 0, 6)], lines=True)["lined"]
        ahead = makes_of(rows)
        need_refusal(self, Elder, {"found": 0}, carried, rows, 0, 2)
        need_refusal(self, Elder, {"found": 1}, carried, rows, 1, 2)
        self.assertEqual(carried(rows, 2, 0), 2)
        self.assertEqual(makes_of(rows), ahead)
        rows = put_beside([1, 2], [(at, 0, at + 7) for at in range(63)], lines=True)["lined"]
        need_refusal(self, Elder, {"found": 3}, carried, rows, 3, 60)

    def test_no_way_ahead_of_all_else(self):
        for thing in no_ways():
            for one, other in ((0, 0), (None, 99), (GREAT, thing)):
                need_refusal(self, NoWay, {"found": thing}, carried, thing, one, other)

    def test_from_beneath_the_row_of_the_other_comes_and_from_above_nothing(self):
        for beginning in range(550, 556):
            draws, book, ways = scripted(beginning, 30)
            for other in [make for make in book.kept if len(book.lines[make]) > 1][:6]:
                for one in [make for make in book.lines[other] if make in book.kept]:
                    self.assertEqual(carrying_of(book, one, other)[1], [])
                    made = self.check(book, ways, one, other)
                    if made is not None:
                        self.assertEqual(book.rows[made], book.rows[other])
                    self.assertEqual(self.check(book, ways, other, one), other)

    def test_rows_of_a_way_made_for_a_test_are_taken(self):
        rows = Whole([1, 2, 3])
        rows.put_all(0, [(0, 5), (2, 6)])
        self.assertEqual(carried(rows, 0, 2), 4)
        self.assertEqual(rows.row(4), [5, 2, 6])


class InterfaceTest(unittest.TestCase):
    def test_what_the_interface_lists_is_defined_in_the_file(self):
        for name in "turned_about put_on carried".split():
            self.assertEqual(getattr(carrying, name).__module__, "makeskept.carrying")

    def test_rows_of_all_five_ways_are_taken(self):
        self.assertEqual([carried(rows, 0, 0) for rows in beside([1], True).values()], [0] * 5)


if __name__ == "__main__":
    unittest.main()
