"""Claims of a closed set: what can be one, and what parts they have.

The set is told by a base, a View or a Ground, that tells whether things are names of it, or lines that it puts.
"""

from manyheads.words import is_end

STATES = ("stands", "gone", "torn")


def is_claim(base, thing):
    """Whether a thing is a claim of the set, be it so or not."""
    if not isinstance(thing, tuple) or not thing or not isinstance(thing[0], str):
        return False
    if thing[0] == "sheet":
        return len(thing) == 3 and _are_knots(base, thing[1]) and is_rising(base, thing[2], 0)
    if thing[0] in ("ring", "knot"):
        return len(thing) == 2 and is_rising(base, thing[1], 2 if thing[0] == "ring" else 1)
    if thing[0] in STATES:
        return len(thing) == 2 and base.has_put(thing[1])
    return len(thing) == 3 and _can_claim(base, thing[0], thing[1], thing[2])


def _can_claim(base, kind, one, other):
    """Whether a claim of this kind can be made of two names or lines."""
    if kind in ("knows", "not known"):
        return base.has_member(one) and base.has_member(other)
    if kind in ("ahead", "not ahead"):
        return is_line(base, one) and is_line(base, other)
    return kind == "loose" and base.has_put(one) and base.has_put(other) and one < other


def is_line(base, thing):
    """Whether a thing is a line of the set, or the head or foot line."""
    return base.has_put(thing) or is_end(thing)


def are_lines(base, things):
    """Whether something is a list of lines, head and foot perhaps among them."""
    return isinstance(things, list) and all(is_line(base, thing) for thing in things)


def is_rising(base, things, least):
    """Whether something is a rising list of so many put lines at the least."""
    if not isinstance(things, list) or len(things) < least:
        return False
    return all(base.has_put(thing) for thing in things) and _rise(things)


def _rise(lines):
    """Whether each of these lines is less than the next one."""
    return all(one < other for one, other in zip(lines, lines[1:]))


def _are_knots(base, things):
    """Whether something is a list of unlike rising lists of lines."""
    if not isinstance(things, list) or not all(is_rising(base, thing, 1) for thing in things):
        return False
    return len({tuple(lines) for lines in things}) == len(things)
