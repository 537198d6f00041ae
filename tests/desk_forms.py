"""The forms of the lines of a desk, by the words of the document alone, and lines of each form."""

import re

from tests.texts import NUMBER

MOST = 10 ** 30 - 1
N = f" ({NUMBER})"
WORD = " ([^ \n]+)"

# A pattern of each form of lines, and what is told of its groups behind the first word.
FORMS = {
    "row": (f"{WORD}((?: {NUMBER})+)", lambda way, worths: (way, numbers(worths))),
    "put": (N * 3, None), "at": (N * 2, None), "all": (N, None), "part": (N * 3, None), "parted": (N * 2, None),
    "putall": (f"{N}((?: {NUMBER} {NUMBER})*)", lambda make, rest: (int(make), pairs(rest))),
    "carry": (N * 2, None), "letgo": (N, None), "makes": ("", None), "tree": ("", None), "stood": (N * 2, None),
    "alike": ("", None), "way": ("", None), "room": ("", None), "steps": ("", None), "text": ("", None),
    "over": (WORD, lambda way: (way,)),
    "read": (f"{WORD}((?: [^ \n]+)+)", lambda way, text: (way, lines_of(text))),
    "keep": (" ([a-z]{1,8})", lambda name: (name,)), "take": (" ([a-z]{1,8})", lambda name: (name,)),
    "drop": (" ([a-z]{1,8})", lambda name: (name,)), "names": ("", None),
}


def numbers(text):
    return [int(word) for word in text.split()]


def pairs(text):
    found = numbers(text)
    return list(zip(found[::2], found[1::2]))


def lines_of(text):
    """What stands between the strokes, each as a line."""
    marked = re.sub("(?<= )/(?= |$)", "\n", text)
    return "\n".join(line.strip(" ") for line in marked.split("\n"))


def told_of(line):
    """What a line tells, None where it is no line."""
    first = line.partition(" ")[0]
    if len(line) > 700 or first not in FORMS:
        return None
    pattern, told = FORMS[first]
    found = re.fullmatch(first + pattern, line)
    if not found:
        return None
    return (first, *(told(*found.groups()) if told else [int(group) for group in found.groups()]))


GOOD = {
    "row plain 5": ("row", "plain", [5]),
    "row boxed 5 -7 0": ("row", "boxed", [5, -7, 0]),
    "row row 1": ("row", "row", [1]),
    "row / 1": ("row", "/", [1]),
    "row 7 1": ("row", "7", [1]),
    "row x" + " 1" * 17: ("row", "x", [1] * 17),
    "row x" + " -1" * 200: ("row", "x", [-1] * 200),
    "put 0 1 5": ("put", 0, 1, 5),
    f"put {MOST} -{MOST} 0": ("put", MOST, -MOST, 0),
    "putall 0": ("putall", 0, []),
    "putall 0 1 5": ("putall", 0, [(1, 5)]),
    "putall 0 1 5 2 -7": ("putall", 0, [(1, 5), (2, -7)]),
    "putall -3" + " 1 2" * 21: ("putall", -3, [(1, 2)] * 21),
    "putall 3" + " 0 9" * 100: ("putall", 3, [(0, 9)] * 100),
    "at 3 0": ("at", 3, 0),
    "all -1": ("all", -1),
    "part 1 0 2": ("part", 1, 0, 2),
    "part 1 2 0": ("part", 1, 2, 0),
    "parted 2 1": ("parted", 2, 1),
    "carry 0 64": ("carry", 0, 64),
    f"letgo {MOST}": ("letgo", MOST),
    "makes": ("makes",), "tree": ("tree",), "alike": ("alike",), "way": ("way",), "room": ("room",),
    "steps": ("steps",), "text": ("text",), "names": ("names",),
    "stood 1 -5": ("stood", 1, -5),
    "over lined": ("over", "lined"),
    "over over": ("over", "over"),
    "over 5:x": ("over", "5:x"),
    "read boxed size 1 / 0 : 4": ("read", "boxed", "size 1\n0 : 4"),
    "read boxed size": ("read", "boxed", "size"),
    "read x size 2 / 0 : 5 -7 / 1 of 0 at 1 gone": ("read", "x", "size 2\n0 : 5 -7\n1 of 0 at 1 gone"),
    "read x /": ("read", "x", "\n"),
    "read / /": ("read", "/", "\n"),
    "read x / /": ("read", "x", "\n\n"),
    "read x / a": ("read", "x", "\na"),
    "read x a /": ("read", "x", "a\n"),
    "read x a / / b": ("read", "x", "a\n\nb"),
    "read x / / a b / / / c / /": ("read", "x", "\n\na b\n\n\nc\n\n"),
    "read x a/b //": ("read", "x", "a/b //"),
    "keep a": ("keep", "a"),
    "keep keep": ("keep", "keep"),
    "take abcdefgh": ("take", "abcdefgh"),
    "drop zyxwvuts": ("drop", "zyxwvuts"),
}

WRONG = (
    "", " ", "  ", "\n", "x", "ro", "rows", "ROW plain 1", "Put 0 1 5", "puts 0 1 5", "put", "0", "plain", "/", "none",
    "row", "row plain", "row plain ", "row plain x", "row plain 1 x", "row 1", "row plain 01", "row plain -0", "row  1",
    "putall", "putall 0 1", "putall 0 1 5 2", "putall x", "putall 0 1 x", "put 0 1", "put 0 1 5 6", "put 0 1 5 ",
    "at 3", "at 3 0 1", "all", "all 1 2", "part 1 0", "part 1 0 2 3", "parted 2", "parted 2 1 0", "carry 1",
    "carry 1 2 3", "letgo", "letgo 1 2", "makes 0", "tree 0", "alike 0", "way plain", "room 1", "steps 1", "text 1",
    "names a", "names 0",
    "stood 1", "stood 1 2 3", "over", "over x y", "read", "read boxed", "read  size", "read boxed  size 1",
    "keep", "keep ", "keep A", "keep a1", "keep abcdefghi", "keep a b", "keep 0", "take", "take aB", "take abcdefghijk",
    "drop", "drop -", "drop a-b", "drop a_", "take a b", "makes\n", "\nmakes", "at 3\n0", "read x a\nb", "put 0 1 5\n",
)
