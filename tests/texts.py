"""Texts with one thing otherwise, and how a number is plainly written."""

NUMBER = "(?:0|-?[1-9][0-9]{0,29})"


def spots(text, things):
    """The text with one thing at any spot put in, put in the place of a sign, or left out."""
    found = []
    for at in range(len(text) + 1):
        found += [text[:at] + thing + text[at:] for thing in things]
        found += [text[:at] + thing + text[at + 1:] for thing in things + ["", text[at:at + 1] * 2]]
    return found


def rearranged(text, between):
    """The text with one of its parts left out, twice, or exchanged with another one."""
    parts = text.split(between)
    found = []
    for at, part in enumerate(parts):
        found += [parts[:at] + parts[at + 1:], parts[:at] + [part] + parts[at:]]
        for other in range(at):
            turned = list(parts)
            turned[at], turned[other] = parts[other], part
            found.append(turned)
    return [between.join(parts) for parts in found]
