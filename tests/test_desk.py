"""[112] to [114] A desk that is told lines, beside rows to which the same is done by the functions."""

import unittest

from makeskept.carrying import carried
from makeskept.desk import Desk
from makeskept.errors import Alone, Clash, Elder, MakesError, NoChanges, NoLine, NoMake, NoName, NoPlace, NoRow
from makeskept.errors import NoStretch, NoText, NoWay, TooMany
from makeskept.maketext import make_text, read_makes
from makeskept.over import gone_over, of_way
from makeskept.parting import parted
from makeskept.searching import alike, stood
from tests.books import some_worth
from tests.desk_forms import FORMS, GOOD, WRONG, told_of
from tests.draws import Draws
from tests.five import WORDS, makes_of
from tests.things import need_refusal, no_ways

MOST = 10 ** 30 - 1
BARE = ("row", "read", "take", "drop", "names")


def listed(things):
    """The things of a list with blanks between them."""
    return " ".join(str(thing) for thing in things) if things else "none"


def stroked(lists):
    """Lists with strokes between them."""
    return " / ".join(listed(things) for things in lists) if lists else "none"


class Beside:
    """A row and kept rows to which all is done by the functions."""

    def __init__(self):
        self.rows = None
        self.kept = {}

    def say(self, line):
        """What is to be answered, or the refusal."""
        told = told_of(line)
        if told is None or self.rows is None and told[0] not in BARE:
            raise NoLine(line)
        return getattr(self, "on_" + told[0])(*told[1:])

    def begun(self, rows):
        self.rows = rows
        return f"size {rows.size()}"

    def on_row(self, way, worths):
        return self.begun(of_way(way, worths))

    def on_read(self, way, text):
        return self.begun(read_makes(text, way))

    def on_over(self, way):
        self.rows = gone_over(self.rows, way)
        return "ok"

    def on_put(self, *things):
        return str(self.rows.put(*things))

    def on_putall(self, *things):
        return listed(self.rows.put_all(*things))

    def on_carry(self, one, other):
        return str(carried(self.rows, one, other))

    def on_letgo(self, make):
        return str(len(self.rows.let_go(make)))

    def on_keep(self, name):
        self.kept[name] = self.rows.copied()
        return "ok"

    def on_take(self, name):
        if name not in self.kept:
            raise NoName(name)
        self.rows = self.kept[name].copied()
        return "ok"

    def on_drop(self, name):
        if name not in self.kept:
            raise NoName(name)
        del self.kept[name]
        return "ok"

    def on_names(self):
        return listed(sorted(self.kept))

    def on_at(self, make, place):
        return str(self.rows.at(make, place))

    def on_all(self, make):
        return listed(self.rows.row(make))

    def on_part(self, make, low, high):
        return listed(self.rows.stretch(make, low, high))

    def on_makes(self):
        return listed(self.rows.makes())

    def on_tree(self):
        return listed([self.rows.tree().own(make) for make in range(1, self.rows.many())])

    def on_parted(self, one, other):
        both, changes = parted(self.rows, one, other)
        return f"{both} : {stroked(changes)}"

    def on_stood(self, place, worth):
        return listed(stood(self.rows, place, worth))

    def on_alike(self):
        return stroked(alike(self.rows))

    def on_way(self):
        return self.rows.way()

    def on_room(self):
        return str(self.rows.room())

    def on_steps(self):
        return str(self.rows.steps())

    def on_text(self):
        return " / ".join(make_text(self.rows).split("\n"))


def fields_of(refusal):
    return refusal.__class__, vars(refusal)


def answer_of(desk, line):
    """What a desk answers, or the class and the fields of its refusal."""
    try:
        return desk.say(line)
    except MakesError as refusal:
        return fields_of(refusal)


def answers(desk, *lines):
    """What a desk answers to each line."""
    return [desk.say(line) for line in lines]


def told_by(desk):
    """What a desk tells of its makes, its names, its way and its room; None where it has no row."""
    names = desk.say("names")
    try:
        return names, answers(desk, "text", "way", "room", "makes", "tree")
    except NoLine:
        return names, None


def some_make(draws, beside):
    """A make to name in a line: most often a kept one."""
    if beside.rows is None or draws.below(15) == 0:
        return draws.among([-1, 64, 65, 10 ** 29, draws.below(64)])
    return draws.among(beside.rows.makes()[-6:] if draws.below(2) else beside.rows.makes())


def some_text(draws, beside):
    """A text to read, with strokes in the place of its line feeds."""
    if beside.rows is None or draws.below(4) == 0:
        texts = ["size 1 / 0 : 4", "size 2 / 0 gone / 1 of 0 at 1 : 3 4", "size 2 / 0 : 5", "x", "/", "size 1 /"]
        return draws.among(texts)
    text = make_text(beside.rows.copied()).replace("\n", " / ")
    return text if draws.below(5) else text.replace("0", "1", 1)


def some_line(draws, beside):
    """A line of any form, good or bad."""
    first = draws.among(list(FORMS) + ["put", "putall", "letgo", "carry"] * 4 + ["keep", "over", "read", "row"])
    size = beside.rows.size() if beside.rows else 2
    place = size if draws.below(15) == 0 else draws.below(size)
    way = draws.among(WORDS) if draws.below(8) else draws.among(["other", "plai", "/"])
    worths = [some_worth(draws) for _ in range(1 + draws.below(4 if draws.below(9) else 17))]
    make, other, worth = some_make(draws, beside), some_make(draws, beside), draws.below(4)
    name = draws.among(["a", "b", "abc", "zyxwvuts"])
    low = draws.below(size)
    changes = [(draws.below(size), draws.below(4)) for _ in range(draws.below(4) if draws.below(12) else 21)]
    rest = {
        "row": [way] + worths, "put": [make, place, worth], "putall": [make] + [n for pair in changes for n in pair],
        "at": [make, place], "all": [make], "part": [make, low, low + draws.below(size - low + 1)],
        "parted": [make, other], "carry": [make, other], "letgo": [make], "stood": [place, worth], "over": [way],
        "read": [way, some_text(draws, beside)], "keep": [name], "take": [name], "drop": [name],
    }.get(first, [])
    line = " ".join(str(thing) for thing in [first] + rest)
    return line if draws.below(20) else draws.among([line + " ", line + " 0 0", line[1:], line.replace(" ", "  ")])


class ScriptsTest(unittest.TestCase):
    """Desks told lines of all forms, beside rows to which the same is done by the functions."""

    def run_beside(self, beginning, way):
        draws = Draws(beginning)
        desk, beside = Desk(), Beside()
        counted = {}
        ahead = told_by(desk)
        for count in range(220):
            line = some_line(draws, beside) if count else f"row {way} 5 -7 0"
            expected = answer_of(beside, line)
            self.assertEqual(answer_of(desk, line), expected, line)
            self.assertEqual(desk.say("steps"), beside.say("steps"), line)
            behind = told_by(desk)
            self.assertEqual(behind, told_by(beside), line)
            if isinstance(expected, tuple):
                counted[expected[0]] = counted.get(expected[0], 0) + 1
                self.assertEqual(behind, ahead, line)
            ahead = behind
        return counted

    def test_in_each_way(self):
        counted = {}
        for beginning in range(900, 920):
            for kind, many in self.run_beside(beginning, WORDS[beginning % 5]).items():
                counted[kind] = counted.get(kind, 0) + many
        kinds = (NoLine, NoName, NoMake, NoPlace, NoStretch, NoRow, NoWay, NoText, NoChanges, Elder, Clash)
        self.assertEqual([kind for kind in kinds if kind not in counted], [])

    def test_desks_without_a_row(self):
        for beginning in range(930, 936):
            draws = Draws(beginning)
            desk, beside = Desk(), Beside()
            for _ in range(60):
                line = some_line(draws, beside)
                if line.split(" ")[0] not in ("row", "read"):
                    self.assertEqual(answer_of(desk, line), answer_of(beside, line), line)
            self.assertEqual(told_by(desk), ("none", None))


class LinesTest(unittest.TestCase):
    """[113], [114] Answers by hand, in each way."""

    def desks(self, lines=False):
        """Desks with a row of each way; of the lined way only where the makes are to be a line."""
        desks = {}
        for word in WORDS:
            if lines or word != "lined":
                desks[word] = Desk()
                self.assertEqual(desks[word].say(f"row {word} 5 -7 0"), "size 3")
        return desks.values()

    def test_row_read_and_over(self):
        for way in WORDS:
            desk = Desk()
            self.assertEqual(desk.say(f"row {way} 5"), "size 1")
            self.assertEqual(desk.say("way"), way)
            self.assertEqual(desk.say(f"row {way}" + " 0" * 16), "size 16")
            self.assertEqual(desk.say(f"read {way} size 2 / 0 gone / 1 of 0 at 1 : 5 {MOST}"), "size 2")
            self.assertEqual(answers(desk, "way", "makes", "all 1"), [way, "1", f"5 {MOST}"])
            for other in WORDS:
                self.assertEqual(answers(desk, f"over {other}", "way", "makes"), ["ok", other, "1"])

    def test_put_putall_carry_and_letgo(self):
        for desk in self.desks():
            told = answers(desk, "put 0 1 8", "putall 0", "putall 0 2 4", "putall 2 0 6 2 1")
            self.assertEqual(told, ["1", "none", "2", "3 4"])
            self.assertEqual(desk.say("carry 3 1"), "5")
            self.assertEqual(answers(desk, "all 5", "carry 5 0", "carry 5 5", "tree"), ["6 8 4", "5", "5", "0 0 2 3 3"])
            self.assertEqual(desk.say("parted 3 1"), "0 : 0 6 5 / 1 -7 8 / 2 4 0")

    def test_letgo_tells_how_many_things_are_free(self):
        lines = ("row {} 5 -7", "put 0 0 1", "put 1 0 2", "put 0 1 3")
        for word, many in (("plain", "1"), ("turned", "1"), ("copied", "2"), ("boxed", "1")):
            desk = Desk()
            answers(desk, *[line.format(word) for line in lines])
            self.assertEqual(answers(desk, "letgo 3", "letgo 2", "letgo 0"), [many] * 3, word)

    def test_asks(self):
        for desk in self.desks(lines=True):
            self.assertEqual(answers(desk, "tree", "makes", "alike", "names"), ["none", "0", "0", "none"])
            answers(desk, "put 0 1 8", "putall 1 2 4 0 6", "put 3 1 -7", "letgo 1")
            self.assertEqual(answers(desk, "at 3 0", "all 3", "part 3 1 3", "part 0 0 1"), ["6", "6 8 4", "8 4", "5"])
            self.assertEqual(answers(desk, "makes", "tree"), ["0 2 3 4", "0 1 2 3"])
            self.assertEqual(answers(desk, "parted 0 3", "parted 3 0"),
                             ["0 : 0 5 6 / 1 -7 8 / 2 0 4", "0 : 0 6 5 / 1 8 -7 / 2 4 0"])
            self.assertEqual(answers(desk, "parted 2 2", "parted 3 4"), ["2 : none", "3 : 1 8 -7"])
            self.assertEqual(answers(desk, "stood 1 -7", "stood 1 8", "stood 2 9"), ["0 4", "2 3", "none"])
            self.assertEqual(desk.say("alike"), "0 / 2 / 3 / 4")
            text = "size 3 / 0 : 5 -7 0 / 1 of 0 at 1 gone / 2 of 1 at 2 : 5 8 4 / 3 of 2 at 0 : 6 8 4"
            text += " / 4 of 3 at 1 : 6 -7 4"
            self.assertEqual(desk.say("text"), text)
            self.assertEqual(desk.say(f"read boxed {text}"), "size 3")
            self.assertEqual(desk.say("text"), text)

    def test_alike_and_none_of_what_parts(self):
        for desk in self.desks(lines=True):
            answers(desk, "putall 0 0 1 0 5 1 9 1 -7 0 1 1 9")
            self.assertEqual(desk.say("alike"), "0 2 4 / 1 5 / 3 / 6")
            told = answers(desk, "parted 0 0", "parted 0 2", "parted 5 1")
            self.assertEqual(told, ["0 : none", "0 : none", "1 : none"])
            self.assertEqual(desk.say("stood 0 5"), "0 2 3 4")

    def test_a_place_a_row_and_a_stretch_are_asked_just_once(self):
        for word in WORDS:
            desk = Desk()
            rows = of_way(word, [5, -7, 0, 4])
            desk.say(f"row {word} 5 -7 0 4")
            for at in range(9):
                desk.say(f"put {at} {at % 3} {at}")
                rows.put(at, at % 3, at)
            for line, ask in (("at 2 1", lambda: rows.at(2, 1)), ("all 0", lambda: rows.row(0)),
                              ("part 7 1 4", lambda: rows.stretch(7, 1, 4)), ("all 9", lambda: rows.row(9))):
                desk.say(line)
                ask()
                self.assertEqual(desk.say("steps"), str(rows.steps()), (word, line))
                self.assertEqual(desk.say("room"), str(rows.room()))

    def test_great_numbers_are_plainly_written(self):
        for desk in self.desks(lines=True):
            self.assertEqual(desk.say(f"put 0 0 -{MOST}"), "1")
            told = answers(desk, "at 1 0", f"stood 0 -{MOST}", "parted 1 0")
            self.assertEqual(told, [f"-{MOST}", "1", f"0 : 0 -{MOST} 5"])

    def test_answers_are_texts(self):
        for desk in self.desks(lines=True):
            for line in ("put 0 1 8", "putall 1", "letgo 0", "at 1 0", "all 1", "makes", "tree", "parted 1 1",
                         "stood 0 5", "alike", "way", "room", "steps", "text", "carry 1 1", "keep a", "names", "take a",
                         "over plain", "drop a"):
                self.assertIs(desk.say(line).__class__, str)


class KeptRowsTest(unittest.TestCase):
    """[113] Rows that are kept by names."""

    def test_kept_rows_stay_as_they_were_kept(self):
        for word in WORDS:
            desk = Desk()
            answers(desk, f"row {word} 5 -7", "put 0 0 1", "put 1 1 2")
            self.assertEqual(answers(desk, "keep a", "names"), ["ok", "a"])
            text, room = answers(desk, "text", "room")
            answers(desk, "put 2 0 3", "letgo 0", "all 3")
            for _ in range(2):
                self.assertEqual(answers(desk, "take a", "text", "room", "way"), ["ok", text, room, word])
                answers(desk, "letgo 1", "put 2 1 9")
                self.assertNotEqual(desk.say("text"), text)
            self.assertEqual(answers(desk, "drop a", "names"), ["ok", "none"])
            need_refusal(self, NoName, {}, desk.say, "take a")

    def test_a_copy_tells_the_same_steps(self):
        for word in WORDS:
            desk = Desk()
            answers(desk, f"row {word} 5 -7", "put 0 0 1", "all 0", "keep ab")
            steps = desk.say("steps")
            answers(desk, "all 1", "all 0", "at 1 1")
            self.assertNotEqual(desk.say("steps"), steps)
            self.assertEqual(answers(desk, "take ab", "steps"), ["ok", steps])

    def test_kept_again_by_a_name(self):
        for word in WORDS:
            desk = Desk()
            answers(desk, f"row {word} 5", "keep a", "put 0 0 1", "keep a", "put 1 0 2")
            self.assertEqual(answers(desk, "names", "take a", "makes"), ["a", "ok", "0 1"])
            answers(desk, "row plain 1 2", "keep a", "take a")
            self.assertEqual(answers(desk, "way", "all 0", "names"), ["plain", "1 2", "a"])

    def test_names_each_once_in_their_order(self):
        desk = Desk()
        answers(desk, "row plain 5", "keep b", "keep abc", "keep z", "keep a", "keep b", "keep ab", "keep zz")
        desk.say("keep azzzzzzz")
        self.assertEqual(desk.say("names"), "a ab abc azzzzzzz b z zz")
        answers(desk, "drop ab", "drop z")
        self.assertEqual(desk.say("names"), "a abc azzzzzzz b zz")

    def test_no_name(self):
        desk = Desk()
        for line in ("take a", "drop a", "take none", "drop names"):
            self.assertEqual(answer_of(desk, line), (NoName, {"found": line.split(" ")[1]}))
        answers(desk, "row plain 5", "keep a")
        ahead = told_by(desk)
        for line in ("take b", "drop b", "take aa", "drop aa"):
            self.assertEqual(answer_of(desk, line), (NoName, {"found": line.split(" ")[1]}))
        self.assertEqual(told_by(desk), ahead)
        answers(desk, "drop a")
        self.assertEqual(answer_of(desk, "drop a"), (NoName, {"found": "a"}))

    def test_kept_rows_are_taken_where_there_was_another_row(self):
        desk = Desk()
        answers(desk, "row lined 5 6", "put 0 0 1", "keep a", "over boxed", "keep b", "row copied 9", "take a")
        self.assertEqual(answers(desk, "way", "text"), ["lined", "size 2 / 0 : 5 6 / 1 of 0 at 0 : 1 6"])
        self.assertEqual(answers(desk, "take b", "way", "makes"), ["ok", "boxed", "0 1"])


class RefusalsTest(unittest.TestCase):
    """[112] What is refused, with which things, and that it changes nothing."""

    def test_while_there_is_no_row(self):
        for line in GOOD:
            if line.split(" ")[0] not in BARE:
                desk = Desk()
                need_refusal(self, NoLine, {"found": line}, desk.say, line)
                self.assertEqual(told_by(desk), ("none", None))
        desk = Desk()
        self.assertEqual(desk.say("names"), "none")
        for line, kind, found in (("take a", NoName, "a"), ("drop a", NoName, "a"), ("row plai 1", NoWay, "plai"),
                                  ("row plain" + " 1" * 17, NoRow, [1] * 17), ("read plain x", NoText, "x")):
            self.assertEqual(answer_of(desk, line), (kind, {"found": found}))
            need_refusal(self, NoLine, {"found": "way"}, desk.say, "way")
        self.assertEqual(desk.say("read plain size 1 / 0 : 4"), "size 1")
        self.assertEqual(desk.say("text"), "size 1 / 0 : 4")

    def test_what_is_no_line_is_refused_with_the_very_thing(self):
        for begin in ([], ["row boxed 5 -7", "put 0 1 3", "keep a"]):
            desk = Desk()
            answers(desk, *begin)
            ahead = told_by(desk)
            things = ["makes " * 200, "x" * 701, desk, [desk], ["makes"], ("row plain 5",)]
            for thing in list(WRONG) + no_ways() + things:
                need_refusal(self, NoLine, {"found": thing}, desk.say, thing)
            self.assertEqual(told_by(desk), ahead)

    def refused(self, desk, line, kind, **fields):
        """The line is refused with this refusal and its fields, and changes nothing."""
        ahead = told_by(desk)
        self.assertEqual(answer_of(desk, line), (kind, fields), line)
        self.assertEqual(told_by(desk), ahead)

    def test_each_refusal_of_the_functions(self):
        for word in WORDS:
            desk = Desk()
            answers(desk, f"row {word} 5 -7 0", "put 0 1 8", "put 1 1 9", "letgo 0", "keep a")
            for line in ("put # 0 1", "putall # 0 1", "putall #", "at # 0", "all #", "part # 0 1", "parted # 2",
                         "parted 2 #", "carry # 2", "carry 2 #", "letgo #", "put # 9 9", "at # 9", "part # 9 9"):
                for make in (0, 3, -1, 64, MOST):
                    self.refused(desk, line.replace("#", str(make)), NoMake, found=make)
            for place in (3, -1, 16, MOST):
                for line in (f"put 2 {place} 1", f"at 2 {place}", f"stood {place} 1"):
                    self.refused(desk, line, NoPlace, found=place)
                self.refused(desk, f"putall 2 0 1 {place} 1", NoChanges, found=[(0, 1), (place, 1)])
            for low, high in ((0, 4), (1, 1), (2, 1), (-1, 2), (3, 4), (MOST, 0)):
                self.refused(desk, f"part 2 {low} {high}", NoStretch, low=low, high=high)
            self.refused(desk, "putall 2" + " 0 1" * 21, NoChanges, found=[(0, 1)] * 21)
            self.refused(desk, "row plain" + " 1" * 17, NoRow, found=[1] * 17)
            for line in ("row other 1", "over other", "read other size 1 / 0 : 4", "row other" + " 1" * 17):
                self.refused(desk, line, NoWay, found="other")
            self.refused(desk, "read other size 1 / 0 : 04 /", NoText, found="size 1\n0 : 04\n")
            self.refused(desk, "read lined size 1 / 0 : 4 / 1 of 0 at 0 : 5 / 2 of 0 at 0 : 6", Elder, found=0)
            answers(desk, "letgo 1")
            self.refused(desk, "letgo 2", Alone, found=2)
            self.assertEqual(answers(desk, "take a", "makes"), ["ok", "1 2"])

    def test_too_many(self):
        for word in WORDS:
            desk = Desk()
            desk.say(f"row {word} 5 -7")
            for at in range(3):
                desk.say(f"putall {at * 20}" + " 0 1 1 2" * 10)
            answers(desk, "put 60 0 1", "put 61 0 1")
            self.refused(desk, "putall 62 0 1 0 2", TooMany, count=65)
            self.refused(desk, "putall 62 0 1 0 2 0 3 0 4", TooMany, count=67)
            self.assertEqual(desk.say("put 62 1 1"), "63")
            self.refused(desk, "put 63 0 1", TooMany, count=65)
            self.refused(desk, "letgo 64", NoMake, found=64)

    def test_clashes_and_the_nearest_make_of_both(self):
        for word in ("plain", "turned", "copied", "boxed"):
            desk = Desk()
            answers(desk, f"row {word} 5 -7 0", "put 0 1 8", "put 1 0 6", "put 1 0 7", "put 3 2 1", "put 2 2 2")
            self.refused(desk, "carry 2 3", Clash, places=[0])
            self.refused(desk, "carry 4 5", Clash, places=[0, 2])
            answers(desk, "letgo 1")
            self.refused(desk, "carry 2 3", NoMake, found=1)

    def test_elders(self):
        desk = Desk()
        answers(desk, "row lined 5 -7", "put 0 0 1")
        self.refused(desk, "put 0 0 2", Elder, found=0)
        self.refused(desk, "putall 0 0 2 1 3", Elder, found=0)
        self.refused(desk, "carry 0 1", Elder, found=0)
        answers(desk, "over boxed", "put 0 0 2", "put 1 1 3")
        self.refused(desk, "over lined", Elder, found=0)
        self.assertEqual(desk.say("way"), "boxed")

    def test_a_refused_row_leaves_the_elder_one(self):
        desk = Desk()
        answers(desk, "row turned 5 -7", "put 0 0 1")
        for line in ("row turned" + " 0" * 17, "row x 1", "read turned size 1", "over x", "take a"):
            with self.assertRaises(MakesError):
                desk.say(line)
            self.assertEqual(desk.say("text"), "size 2 / 0 : 5 -7 / 1 of 0 at 0 : 1 -7")


class ManyDesksTest(unittest.TestCase):
    """[5] Two desks have nothing in common."""

    def test_two_desks(self):
        one, other = Desk(), Desk()
        answers(one, "row plain 5", "put 0 0 1", "keep a")
        self.assertEqual(told_by(other), ("none", None))
        answers(other, "row boxed 7 8", "keep b")
        self.assertEqual(told_by(one), ("a", ["size 1 / 0 : 5 / 1 of 0 at 0 : 1", "plain", "2", "0 1", "0"]))
        self.assertEqual(told_by(other), ("b", ["size 2 / 0 : 7 8", "boxed", "2", "0", "none"]))
        need_refusal(self, NoName, {}, other.say, "take a")

    def test_the_rows_beside_tell_what_the_desk_does(self):
        desk = Desk()
        desk.say("row copied 5 -7")
        desk.say("put 0 1 3")
        read = read_makes(desk.say("text").replace(" / ", "\n"), "copied")
        self.assertEqual(makes_of(read), ("copied", 2, [0, 1], [(None, None), (0, 1)], {0: [5, -7], 1: [5, 3]}))


class InterfaceTest(unittest.TestCase):
    def test_what_the_interface_lists_is_defined_in_the_class_and_the_file(self):
        self.assertEqual(Desk.__module__, "makeskept.desk")
        self.assertIn("say", vars(Desk))


if __name__ == "__main__":
    unittest.main()
