"""Claims of a closed set: what can be one, and what parts they have.

The set is handed in as a table that has, for the name of each of its patches, how many lines this puts.
"""

from manyheads.store import has_name
from manyheads.words import is_end, is_put_line

STATES = ("stands", "gone", "torn")


def is_claim(table, thing):
    """Whether a thing is a claim of the set, be it so or not."""
    if not isinstance(thing, tuple) or not thing or not isinstance(thing[0], str):
        return False
    if thing[0] == "sheet":
        return len(thing) == 3 and _are_knots(table, thing[1]) and is_rising(table, thing[2], 0)
    if thing[0] in ("ring", "knot"):
        return len(thing) == 2 and is_rising(table, thing[1], 2 if thing[0] == "ring" else 1)
    if thing[0] in STATES:
        return len(thing) == 2 and has_line(table, thing[1])
    return len(thing) == 3 and _can_claim(table, thing[0], thing[1], thing[2])


def _can_claim(table, kind, one, other):
    """Whether a claim of this kind can be made of two names or lines."""
    if kind in ("knows", "not known"):
        return has_name(table, one) and has_name(table, other)
    if kind in ("ahead", "not ahead"):
        return is_line(table, one) and is_line(table, other)
    return kind == "loose" and has_line(table, one) and has_line(table, other) and one < other


def has_line(table, thing):
    """Whether a thing is a line that a patch of the set puts."""
    return is_put_line(thing) and thing[2] <= table.get(thing[:2], 0)


def is_line(table, thing):
    """Whether a thing is a line of the set, or the head or foot line."""
    return is_end(thing) or has_line(table, thing)


def are_lines(table, things):
    """Whether something is a list of lines, head and foot perhaps among them."""
    return isinstance(things, list) and all(is_line(table, thing) for thing in things)


def is_rising(table, things, least):
    """Whether something is a rising list of so many put lines at the least."""
    if not isinstance(things, list) or len(things) < least:
        return False
    return all(has_line(table, thing) for thing in things) and _rise(things)


def _rise(lines):
    """Whether each of these lines is less than the next one."""
    return all(one < other for one, other in zip(lines, lines[1:]))


def _are_knots(table, things):
    """Whether something is a list of unlike rising lists of lines."""
    if not isinstance(things, list) or not all(is_rising(table, thing, 1) for thing in things):
        return False
    return len({tuple(lines) for lines in things}) == len(things)
