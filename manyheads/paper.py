"""Papers: steps that show that a claim is so."""

from manyheads.claims import is_claim
from manyheads.errors import BadPaper
from manyheads.knowing import known_by, knowing_way, knows_it
from manyheads.lineage import closure
from manyheads.marks import last_marks, marks_of, put_lines, state_of
from manyheads.order import all_behind, all_from, is_ahead
from manyheads.reach import bindings_in, reach_of, show_of, steps_from, way_by
from manyheads.sheet import knots


def claims_of(view):
    """The claims that tell the states of all put lines, and the sheet's."""
    lines = put_lines(view)
    torn = [line for line in lines if state_of(view, line) == "torn"]
    return [(state_of(view, line), line) for line in lines] + [("sheet", knots(view), torn)]


def paper_for(view, claim):
    """A paper for a claim of the view's set."""
    if not is_claim(view, claim):
        raise BadPaper(0)
    make = MAKERS[claim[0]]
    steps = make(view, claim)
    if steps is None:
        raise BadPaper(0)
    return steps


# Each maker tells the steps of a paper for a claim of its kind, or None where the claim isn't so.

def _knows(view, claim):
    way = knowing_way(view, claim[1], claim[2])
    return None if way is None else [(claim, way)]


def _not_known(view, claim):
    if knows_it(view, claim[1], claim[2]):
        return None
    return [(claim, known_by(view, claim[1]))]


def _ahead(view, claim):
    if not is_ahead(view, claim[1], claim[2]):
        return None
    return _ahead_steps(view, [claim[1]], [claim[2]])


def _not_ahead(view, claim):
    if is_ahead(view, claim[1], claim[2]):
        return None
    return [(claim, all_behind(view, claim[1]))]


def _state(view, claim):
    return [_state_step(view, claim[1])] if state_of(view, claim[1]) == claim[0] else None


def _loose(view, claim):
    one, other = claim[1], claim[2]
    if not _are_loose(reach_of(view), one, other):
        return None
    if state_of(view, one) == "gone" or state_of(view, other) == "gone":
        return None
    return [_state_step(view, one), _state_step(view, other)] + _loose_steps(view, one, other)


def _ring(view, claim):
    reach = reach_of(view)
    rings = [reach.ring_at[reach.numbers[line]] for line in claim[1]]
    return [_ring_step(view, claim[1])] if rings == rings[:1] * len(rings) else None


def _knot(view, claim):
    found = knots(view)
    if claim[1] not in found:
        return None
    at = found.index(claim[1])
    knot = found[at]
    ahead = _joined(found[:at])
    behind = _joined(found[at + 1:])
    steps = _state_steps(view) + _ahead_steps(view, ahead, knot) + _ahead_steps(view, knot, behind)
    steps.extend(_hanging_steps(view, knot))
    steps.append((("knot", knot), (ahead, behind, all_from(view, knot + behind), all_from(view, behind))))
    return steps


def _sheet(view, claim):
    found = knots(view)
    torn = [line for line in put_lines(view) if state_of(view, line) == "torn"]
    if claim[1] != found or claim[2] != torn:
        return None
    steps = _state_steps(view)
    evidence = []
    for at in range(1, len(found)):
        steps.extend(_ahead_steps(view, found[at - 1], found[at]))
        evidence.append(all_from(view, _joined(found[at:])))
    for knot in found:
        steps.extend(_hanging_steps(view, knot))
    steps.append((("sheet", found, torn), evidence))
    return steps


MAKERS = {
    "knows": _knows, "not known": _not_known, "ahead": _ahead, "not ahead": _not_ahead, "stands": _state,
    "gone": _state, "torn": _state, "loose": _loose, "ring": _ring, "knot": _knot, "sheet": _sheet,
}


def _joined(rows):
    """One list of all that some lists have."""
    return [thing for row in rows for thing in row]


def _state_steps(view):
    """Steps that tell the states of all put lines."""
    return [_state_step(view, line) for line in put_lines(view)]


def _state_step(view, line):
    """The step that tells a line's state."""
    state = state_of(view, line)
    if state == "torn":
        return ((state, line), (_all_but(view, line, "keep"), _all_but(view, line, "cut")))
    against = "cut" if state == "stands" else "keep"
    ways = [_way_from_marking(view, line, name) for name, mark in marks_of(view, line) if mark == against]
    return ((state, line), ways)


def _way_from_marking(view, line, name):
    """A knowing way to a patch from one that marks this line."""
    for other, _ in marks_of(view, line):
        if knows_it(view, other, name):
            return knowing_way(view, other, name)
    return None


def _all_but(view, line, mark):
    """All patches that mark a line but one whose last mark is this one, and all that they know altogether."""
    last = [name for name, word in last_marks(view, line) if word == mark]
    others = [name for name, _ in marks_of(view, line) if name != last[0]]
    return closure(view.patches, others)


def _ahead_steps(view, lines, others):
    """Steps that tell that each of some lines is ahead of each of others."""
    reach = reach_of(view)
    steps = []
    for line in lines:
        start = reach.numbers[line]
        ahead = steps_from(reach, start)
        for other in others:
            way = way_by(ahead, start, reach.numbers[other])
            steps.append((("ahead", line, other), _bindings_along(view, way)))
    return steps


def _bindings_along(view, way):
    """The bindings of a way told by numbers."""
    reach, bindings = reach_of(view), bindings_in(view)
    return [bindings[(reach.lines[one], reach.lines[other])] for one, other in zip(way, way[1:])]


def _loose_steps(view, one, other):
    """Steps that tell that two told lines are loose."""
    steps = [(("not ahead", *pair), all_behind(view, pair[0])) for pair in ((one, other), (other, one))]
    steps.append((("loose", one, other), None))
    return steps


def _ring_step(view, lines):
    """The step that tells that lines lie in one ring."""
    reach = reach_of(view)
    bindings = []
    for one, other in zip(lines, lines[1:] + lines[:1]):
        start = reach.numbers[one]
        bindings.extend(_bindings_along(view, way_by(steps_from(reach, start), start, reach.numbers[other])))
    return (("ring", list(lines)), bindings)


def _hanging_steps(view, knot):
    """Steps that tell that the lines of a knot hang together."""
    reach, shown = reach_of(view), show_of(view).shown
    steps = []
    # Each line's part of those that hang together by the steps so far.
    parts = {}
    for line in knot:
        ring = reach.ring_at[reach.numbers[line]]
        parts[line] = ring
        if len(shown[ring]) > 1 and line == reach.lines[shown[ring][0]]:
            steps.append(_ring_step(view, reach.lines_of(shown[ring])))
    for at, one in enumerate(knot):
        for other in knot[at + 1:]:
            if parts[one] != parts[other] and _are_loose(reach, one, other):
                steps.extend(_loose_steps(view, one, other))
                parts = _with_one_part(parts, parts[one], parts[other])
    return steps


def _are_loose(reach, line, other):
    """Whether neither of two told lines is ahead of the other."""
    one, two = reach.numbers[line], reach.numbers[other]
    return not reach.leads(one, two) and not reach.leads(two, one)


def _with_one_part(parts, part, other):
    """The parts where one of two is made one with the other."""
    return {line: part if parts[line] == other else parts[line] for line in parts}
