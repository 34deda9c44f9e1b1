"""A second reading of what a closed set of patches comes to, by the promises' own words and without any haste."""

from itertools import product

from manyheads.patch import Patch
from helpers import FOOT, HEAD, chances, put_all


class Plain:
    """All that told patches come to."""

    def __init__(self, told):
        self.knows = {name: set(knows) for name, knows, _ in told}
        self.put, self.marks, self.bound = {}, {}, {(HEAD, FOOT)}
        for name, _, deeds in told:
            self.read(name, deeds)
        self.known = {name: self.all_known(name) for name in self.knows}
        self.lines = sorted([HEAD, FOOT, *self.put])
        self.ahead = set(self.bound)
        for middle, one, other in product(self.lines, self.lines, self.lines):
            if (one, middle) in self.ahead and (middle, other) in self.ahead:
                self.ahead.add((one, other))
        self.told = [line for line in sorted(self.put) if self.state(line) != "gone"]

    def read(self, name, deeds):
        many = 0
        for deed in deeds:
            row = list(deed[1:3]) if deed[0] == "order" else []
            if deed[0] == "put":
                new = [(*name, many + k) for k in range(1, len(deed[3]) + 1)]
                many += len(new)
                self.put.update(zip(new, deed[3]))
                row = [deed[1], *new, deed[2]]
                for line in new:
                    self.marks.setdefault(line, {})[name] = "keep"
            if deed[0] in ("cut", "keep"):
                self.marks.setdefault(deed[1], {})[name] = deed[0]
            self.bound |= {(row[at], row[at + 1]) for at in range(len(row) - 1)}

    def all_known(self, name):
        known = set(self.knows[name])
        for other in self.knows[name]:
            known |= self.all_known(other)
        return known

    def last_marks(self, line):
        marks = self.marks.get(line, {})
        return [(name, marks[name]) for name in sorted(marks) if not any(name in self.known[other] for other in marks)]

    def state(self, line):
        words = {mark for _, mark in self.last_marks(line)} or {"keep"}
        return "torn" if len(words) == 2 else {"keep": "stands", "cut": "gone"}[words.pop()]

    def ring(self, line):
        return sorted({line} | {other for other in self.lines
                                if (line, other) in self.ahead and (other, line) in self.ahead})

    def loose(self, one, other):
        return one != other and (one, other) not in self.ahead and (other, one) not in self.ahead

    def knot(self, line):
        knot = {line}
        while True:
            more = {two for one, two in product(knot, self.told) if self.loose(one, two) or two in self.ring(one)}
            if more <= knot:
                return sorted(knot)
            knot |= more

    def knots(self):
        left = [list(knot) for knot in {tuple(self.knot(line)) for line in self.told}]
        row = []
        while left:
            first = [knot for knot in left if not any((other[0], knot[0]) in self.ahead for other in left if other != knot)]
            row += first
            left = [knot for knot in left if knot not in first]
        return row

    def told_row(self):
        row = []
        while len(row) < len(self.told):
            row.append(min(line for line in self.told if line not in row and all(
                other in row or (line, other) in self.ahead for other in self.told if (other, line) in self.ahead)))
        return row

    def shortest_way(self, one, other):
        """By going through all ways, shorter ones first."""
        ways = [[one]]
        for _ in self.lines:
            ways = [way + [line] for way in ways for line in self.lines if (way[-1], line) in self.bound
                    and (line == other or (line, other) in self.ahead)]
            ends = [way for way in ways if way[-1] == other]
            if ends or not ways:
                return min(ends, default=None)
            # Of ways that end alike only the least one can come to be the least.
            ways = [min(way for way in ways if way[-1] == end) for end in {way[-1] for way in ways}]
        return None

    def quarrels(self):
        found = []
        for knot in self.knots():
            found += [("torn", line) for line in knot if self.state(line) == "torn"]
            found += [("knot", tuple(knot))] if len(knot) > 1 else []
        return found


def line_web(seed, many=7, hands="abc", most_deeds=5):
    """A store of patches of several hands that put, cut, keep and order lines of those that they know, or some of them.

    With two of three seeds all know a first patch with a few lines, and few deeds go against the order that is known.
    """
    some = chances(seed * 7 + 3)
    based = seed % 3 != 0
    patches, known_by, lines_of = [], {}, {}
    for at in range(many):
        hand = hands[next(some) % len(hands)]
        name = (hand, sum(1 for other in known_by if other[0] == hand) + 1)
        knows = {list(known_by)[next(some) % at] for _ in range(next(some) % 4)} if at else set()
        knows |= set(list(known_by)[:1]) if based else set()
        known = knows.union(*[known_by[other] for other in knows])
        lines = [line for other in sorted(known) for line in lines_of[other]]
        deeds = _some_deeds(some, name, lines, 1 + next(some) % most_deeds, based)
        if based and not at:
            deeds = [("put", HEAD, FOOT, tuple("vwxyz"[:2 + next(some) % 4]))]
        patches.append(Patch(name, sorted(knows), deeds))
        known_by[name] = known
        lines_of[name] = [(*name, place + 1) for place in range(sum(len(deed[3]) for deed in deeds if deed[0] == "put"))]
    return put_all(patches)


def _some_deeds(some, name, lines, many, based):
    """Deeds of a patch that knows these lines."""
    deeds, there, own = [], list(lines), 0
    for _ in range(many):
        picked = [there[next(some) % len(there)] for _ in range(2)] if there else [HEAD, FOOT]
        if based and next(some) % 8:
            picked = sorted(picked, key=there.index) if there else picked
        kind = ("put", "put", "cut", "keep", "cut" if based else "order", "order")[next(some) % 6] if there else "put"
        if kind == "put":
            above = picked[0] if next(some) % (9 if based else 3) else HEAD
            below = picked[1] if next(some) % (9 if based else 3) else FOOT
            if above != below:
                texts = tuple("xyz"[next(some) % 3] for _ in range(1 + next(some) % 3))
                deeds.append(("put", above, below, texts))
                there += [(*name, own + 1 + k) for k in range(len(texts))]
                own += len(texts)
        elif kind != "order":
            # Some lines are marked by many.
            deeds.append((kind, there[next(some) % min(len(there), 3)]))
        elif picked[0] != picked[1]:
            deeds.append(("order", *picked))
    return deeds


def plain_of(view):
    """The second reading of a view's patches."""
    return Plain([view.patch_of(name).told() for name in view.names()])


def ring_store():
    """A store with a ring of told lines, one with a gone line, one of gone lines alone, and lines about them.

    a.1 puts one .. eight in a row; b.1, c.1 and d.1 know a.1 alone.
    """
    def line(place):
        return ("a", 1, place)

    return put_all([
        Patch(("a", 1), [], [("put", HEAD, FOOT, ("one", "two", "three", "four", "five", "six", "seven", "eight"))]),
        Patch(("b", 1), [("a", 1)], [("order", line(3), line(1)), ("cut", line(5)), ("cut", line(7)), ("cut", line(8))]),
        Patch(("c", 1), [("a", 1)], [("order", line(6), line(4)), ("order", line(8), line(7)), ("cut", line(2))]),
        Patch(("d", 1), [("a", 1)], [("keep", line(2)), ("put", line(1), line(4), ("new",))]),
    ])
