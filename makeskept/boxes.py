"""Boxes: how a make is looked for in the box of a place."""


def found_by_halving(stands, stand):
    """Where the last of these rising stands is that does not stand behind the stand, and the steps to find it."""
    begin = 0
    end = len(stands)
    # One step more than there are looks, as the turn that is found counts, too.
    steps = 1
    while end - begin > 1:
        middle = (begin + end) // 2
        steps += 1
        if stands[middle] <= stand:
            begin = middle
        else:
            end = middle
    return begin, steps
