"""What the checker goes by: the told patches of a closed set, and the facts told so far."""

from manyheads.patch import bindings_in
from manyheads.store import has_name
from manyheads.words import FOOT, HEAD, is_among, is_triple


class Ground:
    """A closed set of told patches, and the facts of a paper's steps as far as it was let by.

    Patches are told by a table from their names, with all those of the set or more. Of them just the row of names
    is looked at ahead; what they put, mark and bind is gathered when it is asked for.
    """

    def __init__(self, told, names):
        self.told_patches = told
        self.row = names
        self.inside = told if len(told) == len(names) else {name: True for name in names}
        self.many = {}
        self.seen = {}
        self.pairs = {}
        self.behind = None
        self.marks = None
        self.facts = {}
        # Lists of lines that hang together by facts told, if they are told lines.
        self.links = []

    def note(self, fact):
        """Take in the fact of a step."""
        if fact[0] == "ring":
            self.links.append(list(fact[1]))
        elif fact[0] not in ("knot", "sheet"):
            self.facts[fact] = True
            if fact[0] == "loose":
                self.links.append([fact[1], fact[2]])

    def has_member(self, thing):
        """Whether a thing is one of the names of the set."""
        return has_name(self.inside, thing)

    def has_put(self, thing):
        """Whether a thing is a line that a patch of the set puts."""
        if not is_triple(thing):
            return False
        if thing not in self.seen:
            self.seen[thing] = thing[:2] in self.inside and 1 <= thing[2] <= self.many_put(thing[:2])
        return self.seen[thing]

    def known_to(self, name):
        """What a patch of the set knows directly."""
        return self.told_patches[name][1]

    def many_put(self, name):
        """How many lines a patch puts."""
        if name not in self.many:
            self.many[name] = sum([len(deed[3]) for deed in self.told_patches[name][2] if deed[0] == "put"])
        return self.many[name]

    def pair_of(self, binding):
        """The lines that a binding binds, or None of what is no binding."""
        if binding is None:
            return (HEAD, FOOT)
        if not isinstance(binding, tuple) or len(binding) != 3 or not has_name(self.inside, binding[0]):
            return None
        name, deed, place = binding
        rows = self._pairs_in(name)
        if not is_among(deed, 1, len(rows)) or not is_among(place, 1, len(rows[deed - 1])):
            return None
        return rows[deed - 1][place - 1]

    def bound(self):
        """For each line that has lines bound straight behind it all these."""
        if self.behind is None:
            self.behind = {HEAD: [FOOT]}
            for name in self.row:
                for pairs in self._pairs_in(name):
                    for one, other in pairs:
                        self.behind.setdefault(one, []).append(other)
        return self.behind

    def marks_of(self, line):
        """The patches that mark a line, with their marks."""
        if self.marks is None:
            self.marks = {}
            for name in self.row:
                self._gather_marks(name)
        found = {line[:2]: "keep"}
        found.update(self.marks.get(line, {}))
        return found

    def put_lines(self):
        """All lines that patches of the set put, rising."""
        return [(*name, place) for name in self.row for place in range(1, self.many_put(name) + 1)]

    def _gather_marks(self, name):
        """Take in the cuts and keeps of a patch; that it keeps what it puts is known without."""
        for deed in self.told_patches[name][2]:
            if deed[0] == "cut" or deed[0] == "keep":
                self.marks.setdefault(deed[1], {})[name] = deed[0]

    def _pairs_in(self, name):
        """What each deed of a patch binds."""
        if name not in self.pairs:
            self.pairs[name] = bindings_in(name, self.told_patches[name][2])
        return self.pairs[name]


def told_by_facts(ground):
    """The told lines and the torn ones by the facts told, two rising lists; None where a line's state lacks."""
    told, torn = [], []
    for line in ground.put_lines():
        if ("torn", line) in ground.facts:
            torn.append(line)
            told.append(line)
        elif ("stands", line) in ground.facts:
            told.append(line)
        elif ("gone", line) not in ground.facts:
            return None
    return (told, torn)


def are_ahead(ground, lines, others):
    """Whether by the facts told each of some lines is ahead of each of others."""
    return all([("ahead", line, other) in ground.facts for line in lines for other in others])


def hang_together(ground, knots):
    """Whether by the facts told the lines of each of these hang together."""
    knot_at = {line: at for at, knot in enumerate(knots) for line in knot}
    linked = {line: [] for line in knot_at}
    for link in ground.links:
        before = {}
        for line in link:
            if line in knot_at:
                other = before.get(knot_at[line], line)
                linked[line].append(other)
                linked[other].append(line)
                before[knot_at[line]] = line
    return all([len(_linked_to(linked, knot[0])) == len(knot) for knot in knots])


def _linked_to(linked, line):
    """All lines that are linked to a line, by others, too."""
    found = {line: True}
    left = [line]
    while left:
        last = left.pop()
        for other in linked[last]:
            if other not in found:
                found[other] = True
                left.append(other)
    return found
