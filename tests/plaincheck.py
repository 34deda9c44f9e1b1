"""A second checker of papers, which looks at each thing said in [70] to [72] for itself."""

from plain import Plain
from helpers import FOOT, HEAD


def as_told(thing):
    """A text that tells of what kinds a thing and its parts are, and what they are."""
    try:
        return repr(thing)
    except RecursionError:
        return "too deep"


def like(thing, other):
    """Whether two things are alike, and of one kind all through."""
    return as_told(thing) == as_told(other)


def table_of(things):
    return {as_told(thing) for thing in things}


class Wrong(Exception):
    """Something said isn't so."""


def due(so):
    if not so:
        raise Wrong


class Checker:

    def __init__(self, told):
        self.plain = Plain(told)
        self.knows = self.plain.knows
        self.names = sorted(self.knows)
        self.put = sorted(self.plain.put)
        self.lines = [HEAD, FOOT] + self.put
        self.is_name, self.is_put, self.is_line = table_of(self.names), table_of(self.put), table_of(self.lines)
        self.bindings = {None: (HEAD, FOOT)}
        for name, _, deeds in told:
            many = 0
            for at, deed in enumerate(deeds, start=1):
                row = list(deed[1:]) if deed[0] == "order" else []
                if deed[0] == "put":
                    row = [deed[1]] + [(*name, many + k + 1) for k in range(len(deed[3]))] + [deed[2]]
                    many += len(deed[3])
                for place in range(1, len(row)):
                    self.bindings[(name, at, place)] = (row[place - 1], row[place])
        self.is_binding = table_of(self.bindings)
        self.bound = {line: {other for one, other in self.plain.bound if one == line} for line in self.lines}
        self.facts, self.told = [], set()

    def list_of(self, things, table, least=0, rising=False):
        due(isinstance(things, list) and len(things) >= least and all(as_told(thing) in table for thing in things))
        due(not rising or sorted(set(things)) == things)

    def claim(self, claim):
        due(isinstance(claim, tuple) and len(claim) > 1 and isinstance(claim[0], str) and claim[0] in (
            "knows", "not known", "ahead", "not ahead", "stands", "gone", "torn", "loose", "ring", "knot", "sheet"))
        kind = claim[0]
        due(len(claim) == (2 if kind in ("stands", "gone", "torn", "ring", "knot") else 3))
        if kind in ("knows", "not known"):
            due(all(as_told(thing) in self.is_name for thing in claim[1:]))
        elif kind in ("ahead", "not ahead"):
            due(all(as_told(thing) in self.is_line for thing in claim[1:]))
        elif kind in ("stands", "gone", "torn", "loose"):
            due(all(as_told(thing) in self.is_put for thing in claim[1:]))
            due(kind != "loose" or claim[1] < claim[2])
        elif kind != "sheet":
            self.list_of(claim[1], self.is_put, 2 if kind == "ring" else 1, True)
        else:
            due(isinstance(claim[1], list))
            for knot in claim[1]:
                self.list_of(knot, self.is_put, 1, True)
            due(not any(knot in claim[1][:at] for at, knot in enumerate(claim[1])))
            self.list_of(claim[2], self.is_put, 0, True)

    def note(self, fact):
        self.facts.append(fact)
        self.told.add(as_told(fact))

    def fact(self, *fact):
        return as_told(fact) in self.told

    def way_of_names(self, names):
        self.list_of(names, self.is_name, 2)
        due(all(names[at + 1] in self.knows[names[at]] for at in range(len(names) - 1)))

    def way_of_lines(self, bindings):
        self.list_of(bindings, self.is_binding, 1)
        pairs = [self.bindings[binding] for binding in bindings]
        due(all(pairs[at][1] == pairs[at + 1][0] for at in range(len(pairs) - 1)))
        return [pairs[0][0]] + [pair[1] for pair in pairs]

    def shut(self, things, table):
        due(all(table[thing] <= set(things) for thing in things))

    def follows(self, fact, evidence):
        getattr(self, "see_" + fact[0].replace(" ", "_"))(evidence, *fact[1:])

    def see_knows(self, names, one, other):
        self.way_of_names(names)
        due(names[0] == one and names[-1] == other)

    def see_not_known(self, names, one, other):
        self.list_of(names, self.is_name)
        self.shut(names, self.knows)
        due(self.knows[one] <= set(names) and other not in names)

    def see_ahead(self, bindings, one, other):
        way = self.way_of_lines(bindings)
        due(way[0] == one and way[-1] == other)

    def see_not_ahead(self, lines, one, other):
        self.list_of(lines, self.is_line)
        self.shut(lines, self.bound)
        due(self.bound[one] <= set(lines) and other not in lines)

    def see_stands(self, ways, line, mark="cut"):
        marks = self.plain.marks[line]
        marked = [name for name in sorted(marks) if marks[name] == mark]
        due(isinstance(ways, list) and len(ways) == len(marked))
        for name, way in zip(marked, ways):
            self.way_of_names(way)
            due(way[-1] == name and way[0] in marks and way[0] != name)

    def see_gone(self, ways, line):
        self.see_stands(ways, line, "keep")

    def see_torn(self, evidence, line):
        due(isinstance(evidence, tuple) and len(evidence) == 2)
        marks = self.plain.marks[line]
        for names, mark in zip(evidence, ("keep", "cut")):
            self.list_of(names, self.is_name)
            self.shut(names, self.knows)
            left = set(marks) - set(names)
            due(len(left) == 1 and marks[left.pop()] == mark)

    def see_loose(self, evidence, one, other):
        due(evidence is None and self.fact("not ahead", one, other) and self.fact("not ahead", other, one))
        for line in (one, other):
            due(self.fact("stands", line) or self.fact("torn", line))

    def see_ring(self, bindings, lines):
        way = self.way_of_lines(bindings)
        due(way[0] == way[-1] == lines[0] and set(lines) <= set(way))

    def states(self):
        for line in self.put:
            due(any(self.fact(state, line) for state in ("stands", "gone", "torn")))
        return [line for line in self.put if not self.fact("gone", line)]

    def hang(self, knot):
        parts = [{line} for line in knot]
        for fact in self.facts:
            if fact[0] in ("loose", "ring"):
                bound = set(fact[1:] if fact[0] == "loose" else fact[1])
                some = [part for part in parts if part & bound]
                parts = [part for part in parts if not part & bound] + ([set().union(*some)] if some else [])
        due(len(parts) == 1)

    def see_knot(self, evidence, knot):
        due(isinstance(evidence, tuple) and len(evidence) == 4)
        ahead, behind, start, farther = evidence
        for lines in evidence:
            self.list_of(lines, self.is_line)
        due(sorted(ahead + knot + behind) == self.states())
        due(all(self.fact("ahead", one, other) for one in ahead for other in knot))
        due(all(self.fact("ahead", one, other) for one in knot for other in behind))
        self.shut(start, self.bound)
        self.shut(farther, self.bound)
        due(set(knot + behind) <= set(start) and not set(start) & set(ahead))
        due(set(behind) <= set(farther) and not set(farther) & set(ahead + knot))
        self.hang(knot)

    def see_sheet(self, evidence, knots, torn):
        row = sum(knots, [])
        due(sorted(row) == self.states() and torn == [line for line in self.put if self.fact("torn", line)])
        due(isinstance(evidence, list) and len(evidence) == max(0, len(knots) - 1))
        for at, lines in enumerate(evidence, start=1):
            self.list_of(lines, self.is_line)
            due(all(self.fact("ahead", one, other) for one in knots[at - 1] for other in knots[at]))
            self.shut(lines, self.bound)
            due(set(sum(knots[at:], [])) <= set(lines) and not set(lines) & set(sum(knots[:at], [])))
        for knot in knots:
            self.hang(knot)


CHECKERS = {}


def checker_of(told):
    """A checker that was told no facts; one of the same patches is made but once."""
    key = as_told(told)
    if key not in CHECKERS:
        CHECKERS[key] = Checker(told)
    CHECKERS[key].facts, CHECKERS[key].told = [], set()
    return CHECKERS[key]


def wrong_step(patches, names, claim, paper):
    """The step at which a paper is refused, or None."""
    told = {patch[0]: patch for patch in patches}
    try:
        due(isinstance(names, list) and all(as_told(name) in table_of(told) for name in names))
        due(sorted(set(names)) == names and all(known in names for name in names for known in told[name][1]))
        checker = checker_of([told[name] for name in names])
        checker.claim(claim)
        due(isinstance(paper, list))
    except Wrong:
        return 0
    for at, step in enumerate(paper, start=1):
        try:
            due(isinstance(step, tuple) and len(step) == 2)
            checker.claim(step[0])
            checker.follows(*step)
        except Wrong:
            return at
        checker.note(step[0])
    return None if paper and like(paper[-1][0], claim) else len(paper) + 1
