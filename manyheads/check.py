"""The checker of papers. It knows nothing of views, and takes nothing for so but what is shown to it."""

from manyheads.claims import are_lines, is_claim
from manyheads.errors import BadPaper
from manyheads.ground import Ground, are_ahead, hang_together, told_by_facts
from manyheads.store import has_names


def check(patches, names, claim, paper):
    """Let a paper for a claim by, or refuse it at its first wrong step."""
    told = {patch[0]: patch for patch in patches}
    if not _are_closed(told, names):
        raise BadPaper(0)
    ground = Ground(told, names)
    if not is_claim(ground, claim) or not isinstance(paper, list):
        raise BadPaper(0)
    for at, step in enumerate(paper, start=1):
        if not isinstance(step, tuple) or len(step) != 2 or not is_claim(ground, step[0]):
            raise BadPaper(at)
        fact, evidence = step
        follows = FOLLOWS[fact[0]]
        if not follows(ground, fact, evidence):
            raise BadPaper(at)
        ground.note(fact)
    if not paper or paper[-1][0] != claim:
        raise BadPaper(len(paper) + 1)


def _are_closed(told, names):
    """Whether something is a rising list of names of told patches that is a closed set."""
    if not isinstance(names, list):
        return False
    if names == sorted(told):
        # Of what is equal to all names just True in the place of 1 is none.
        if [number for _, number in names if number is True]:
            return False
        return not [other for patch in told.values() for other in patch[1] if other not in told]
    if not has_names(told, names) or not all(one < other for one, other in zip(names, names[1:])):
        return False
    inside = {name: True for name in names}
    return not [other for name in names for other in told[name][1] if other not in inside]


def _leads_inside(table, inside, things):
    """Whether all that a table has for some things is inside."""
    for thing in things:
        for other in table.get(thing, []):
            if other not in inside:
                return False
    return True


def _know_inside(ground, inside, names):
    """Whether all that some names know directly is inside."""
    for name in names:
        for other in ground.known_to(name):
            if other not in inside:
                return False
    return True


def _is_knowing(ground, names):
    """Whether something is a list of two names or more, each of which knows the next one directly."""
    if not has_names(ground.inside, names) or len(names) < 2:
        return False
    return all(other in ground.known_to(one) for one, other in zip(names, names[1:]))


def _knows(ground, fact, names):
    return _is_knowing(ground, names) and names[0] == fact[1] and names[-1] == fact[2]


def _not_known(ground, fact, names):
    if not has_names(ground.inside, names):
        return False
    inside = {name: True for name in names}
    return fact[2] not in inside and _know_inside(ground, inside, [fact[1], *inside])


def _lines_along(ground, bindings):
    """The lines along a list of bindings, one at least, each of which begins where that ahead of it ends, or None."""
    if not isinstance(bindings, list):
        return None
    lines = []
    for binding in bindings:
        pair = ground.pair_of(binding)
        if pair is None or (lines and lines[-1] != pair[0]):
            return None
        lines.extend(pair[1:] if lines else pair)
    return lines or None


def _ahead(ground, fact, bindings):
    lines = _lines_along(ground, bindings)
    return lines is not None and lines[0] == fact[1] and lines[-1] == fact[2]


def _not_ahead(ground, fact, lines):
    if not are_lines(ground, lines):
        return False
    inside = {line: True for line in lines}
    return fact[2] not in inside and _leads_inside(ground.bound(), inside, [fact[1], *inside])


def _stands(ground, fact, evidence):
    return _are_known(ground, fact[1], "cut", evidence)


def _gone(ground, fact, evidence):
    return _are_known(ground, fact[1], "keep", evidence)


def _are_known(ground, line, mark, evidence):
    """Whether a list shows for each patch with this mark of a line that another one that marks it knows that one."""
    marks = ground.marks_of(line)
    due = sorted([name for name in marks if marks[name] == mark])
    if not isinstance(evidence, list) or len(evidence) != len(due):
        return False
    for name, names in zip(due, evidence):
        if not _is_knowing(ground, names) or names[0] not in marks or names[-1] != name:
            return False
    return True


def _torn(ground, fact, evidence):
    if not isinstance(evidence, tuple) or len(evidence) != 2:
        return False
    marks = ground.marks_of(fact[1])
    return _have_all_but(ground, marks, "keep", evidence[0]) and _have_all_but(ground, marks, "cut", evidence[1])


def _have_all_but(ground, marks, mark, names):
    """Whether a list of names has all that its own know, and all patches with marks but one, which has this mark."""
    if not has_names(ground.inside, names):
        return False
    inside = {name: True for name in names}
    lacking = [marks[name] for name in marks if name not in inside]
    return lacking == [mark] and _know_inside(ground, inside, inside)


def _loose(ground, fact, evidence):
    one, other = fact[1], fact[2]
    if evidence is not None or ("not ahead", one, other) not in ground.facts:
        return False
    return ("not ahead", other, one) in ground.facts and _is_told(ground, one) and _is_told(ground, other)


def _is_told(ground, line):
    """Whether it is a fact told that a line stands or is torn."""
    return ("stands", line) in ground.facts or ("torn", line) in ground.facts


def _ring(ground, fact, bindings):
    lines = _lines_along(ground, bindings)
    if lines is None or lines[0] != fact[1][0] or lines[-1] != lines[0]:
        return False
    along = {line: True for line in lines}
    return all(line in along for line in fact[1])


def _knot(ground, fact, evidence):
    if not isinstance(evidence, tuple) or len(evidence) != 4:
        return False
    if not all(are_lines(ground, lines) for lines in evidence):
        return False
    knot = fact[1]
    ahead, behind, start, farther = evidence
    told = told_by_facts(ground)
    if told is None or sorted(ahead + knot + behind) != told[0]:
        return False
    if not are_ahead(ground, ahead, knot) or not are_ahead(ground, knot, behind):
        return False
    if not _parts(ground, start, knot + behind, ahead) or not _parts(ground, farther, behind, ahead + knot):
        return False
    return hang_together(ground, [knot])


def _parts(ground, lines, inner, outer):
    """Whether some lines have all inner ones and all bound right behind their own, but no outer one."""
    inside = {line: True for line in lines}
    if not all(line in inside for line in inner) or any(line in inside for line in outer):
        return False
    return _leads_inside(ground.bound(), inside, inside)


def _sheet(ground, fact, evidence):
    knots, torn = fact[1], fact[2]
    if not isinstance(evidence, list) or len(evidence) != max(len(knots) - 1, 0):
        return False
    if not all(are_lines(ground, lines) for lines in evidence):
        return False
    row = [line for knot in knots for line in knot]
    told = told_by_facts(ground)
    if told is None or sorted(row) != told[0] or torn != told[1]:
        return False
    many = 0
    for knot, behind, lines in zip(knots, knots[1:], evidence):
        many += len(knot)
        if not are_ahead(ground, knot, behind) or not _parts(ground, lines, row[many:], row[:many]):
            return False
    return hang_together(ground, knots)


FOLLOWS = {
    "knows": _knows, "not known": _not_known, "ahead": _ahead, "not ahead": _not_ahead, "stands": _stands,
    "gone": _gone, "torn": _torn, "loose": _loose, "ring": _ring, "knot": _knot, "sheet": _sheet,
}
