"""Trees of makes of several shapes, and what they tell, told again from their lists of own makes alone."""


def shapes():
    """Lists of the own makes of makes 1, 2 and so on, by names."""
    return {
        "make 0 alone": [],
        "two makes": [0],
        "two on make 0": [0, 0],
        "a short line": [0, 1, 2],
        "a long line": list(range(63)),
        "all on make 0": [0] * 63,
        "two on each": [at // 2 for at in range(63)],
        "two long lines": [max(0, at - 1) for at in range(63)],
        "a line with a leaf at each": [at - at % 2 for at in range(63)],
        "a line, then all on its end": list(range(20)) + [20] * 43,
        "now on the newest, now on make 0": [0 if at % 5 == 4 else at for at in range(63)],
        "now on the newest, now on others": [at if at % 3 else at * 7 % (at + 1) // 2 for at in range(63)],
        "all about": [(at * at * 11 + 5 * at) % (at + 1) for at in range(63)],
    }


def grown(tree, owns):
    """The tree, grown by a make on each of these."""
    for own in owns:
        tree.grow(own)
    return tree


def line_of(owns, make):
    """The line of a make."""
    line = [make]
    while line[0]:
        line.insert(0, owns[line[0] - 1])
    return line


def nearest_of(owns, one, other):
    """The nearest make of both."""
    return [make for make in line_of(owns, one) if make in line_of(owns, other)][-1]


def way_of(owns, one, other):
    """The way from the one to the other."""
    nearest = nearest_of(owns, one, other)
    up = [make for make in line_of(owns, one) if make not in line_of(owns, nearest)]
    down = [make for make in line_of(owns, other) if make not in line_of(owns, nearest)]
    return up[::-1] + [nearest] + down


def leaps_of(owns, make):
    """The leaps of a make."""
    above = line_of(owns, make)[::-1]
    return [above[2 ** power] for power in range(7) if 2 ** power < len(above)]


def leap_way_of(owns, make, steps):
    """The leaps by which one comes so many steps up."""
    above = line_of(owns, make)[::-1]
    gone = 0
    way = []
    for power in (32, 16, 8, 4, 2, 1):
        if gone + power <= steps:
            gone += power
            way.append(above[gone])
    return way


def told(tree):
    """All that a tree tells of its makes one by one, to see whether it is as it was."""
    makes = range(tree.many())
    return [(make, tree.own(make), tree.depth(make), tree.on(make), tree.line(make)) for make in makes]
