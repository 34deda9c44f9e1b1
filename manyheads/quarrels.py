"""Quarrels of a sheet, and what settles them."""

from manyheads.errors import OutOfPlace
from manyheads.marks import state_of
from manyheads.reach import show_of
from manyheads.sheet import knots
from manyheads.words import is_put_line


def quarrels(view):
    """All quarrels, knot by knot."""
    found = []
    for knot in knots(view):
        found.extend([("torn", line) for line in knot if state_of(view, line) == "torn"])
        if len(knot) > 1:
            found.append(("knot", tuple(knot)))
    return found


def is_plain(view):
    """Whether the sheet is without quarrels."""
    return not quarrels(view)


def ways_to_settle(view, quarrel):
    """The deeds each of which takes a quarrel on."""
    if not _can_be_quarrel(quarrel) or quarrel not in quarrels(view):
        raise OutOfPlace("this is no quarrel of the view")
    if quarrel[0] == "torn":
        return [("keep", quarrel[1]), ("cut", quarrel[1])]
    return _ways_with_knot(show_of(view), quarrel[1])


def _can_be_quarrel(thing):
    """Whether a thing is of the kind of a quarrel; what is only equal to one, as True is to 1, is not."""
    if not isinstance(thing, tuple) or len(thing) != 2 or not isinstance(thing[0], str):
        return False
    lines = (thing[1],) if thing[0] == "torn" else thing[1]
    return isinstance(lines, tuple) and all(is_put_line(line) for line in lines)


def _ways_with_knot(show, knot):
    """The deeds that bring on a knot's lines."""
    reach = show.reach
    numbers = [reach.numbers[line] for line in knot]
    found = []
    for at, one in enumerate(numbers):
        for other in numbers[at + 1:]:
            if not reach.leads(one, other) and not reach.leads(other, one):
                found.append(("order", reach.lines[one], reach.lines[other]))
                found.append(("order", reach.lines[other], reach.lines[one]))
    for number in numbers:
        if len(show.shown[reach.ring_at[number]]) > 1:
            found.append(("cut", reach.lines[number]))
    return found
