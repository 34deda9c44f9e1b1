"""The bindings of a view, gone through once: its rings, and which of them are ahead of which."""

from manyheads.lineage import has_place
from manyheads.marks import all_lines, state_of
from manyheads.patch import work_of
from manyheads.words import FOOT, HEAD

# How many rings the bits of one number tell of: of very many lines no number comes to be too long.
BLOCK = 4096
# The numbers of lines: head, foot, then the lines put.
HEAD_NUMBER = 0
FOOT_NUMBER = 1
FIRST_PUT = 2


class Reach:
    """The lines of a view by numbers, which rise as the lines do, and their rings, also those of one line.

    Rings have numbers, too: each one is ahead only of such as have lesser numbers. Reaches are never changed, so
    views that were copied may have the same one.
    """

    def __init__(self, view):
        self.lines = all_lines(view)
        self.numbers = {line: number for number, line in enumerate(self.lines)}
        self.behind = _behind(self.numbers, _works_in(view))
        self.rings, self.ring_at = _rings(self.behind)
        self.straight = _straight(self.behind, self.rings, self.ring_at)
        # These are found when they are first asked for.
        self.masks = {}
        self.bindings = None

    def lines_of(self, numbers):
        """The lines that have these numbers, in their order."""
        return [self.lines[number] for number in numbers]

    def leads(self, one, other):
        """Whether a line is ahead of another one, both told by their numbers."""
        here, there = self.ring_at[one], self.ring_at[other]
        if here == there:
            return len(self.rings[here]) > 1
        return here > there and has_place(self.masks_of(there // BLOCK)[here], there % BLOCK)

    def masks_of(self, block):
        """For each ring the bits of those rings of a block that it is, or is ahead of."""
        if block not in self.masks:
            first = block * BLOCK
            masks = []
            for ring, others in enumerate(self.straight):
                mask = 1 << (ring - first) if first <= ring < first + BLOCK else 0
                for other in others:
                    mask = mask | masks[other]
                masks.append(mask)
            self.masks[block] = masks
        return self.masks[block]

    def blocks(self):
        """How many blocks of rings there are."""
        return (len(self.rings) - 1) // BLOCK + 1


class Show:
    """The told lines of a view, by the rings of its reach. What the sheet needs is kept here, too.

    It is never changed, either.
    """

    def __init__(self, view):
        self.reach = reach_of(view)
        states = [state_of(view, line) for line in self.reach.lines]
        told = [number >= FIRST_PUT and state != "gone" for number, state in enumerate(states)]
        self.shown = [[number for number in ring if told[number]] for ring in self.reach.rings]
        self.knots = None
        self.told_row = None

    def loose_in(self, block):
        """For each ring the bits of those lesser ones of a block to which it is loose, both having told lines."""
        first = block * BLOCK
        shown = 0
        for place, numbers in enumerate(self.shown[first:first + BLOCK]):
            if numbers:
                shown = shown | (1 << place)
        found = []
        for ring, mask in enumerate(self.reach.masks_of(block)):
            lesser = (1 << min(max(ring - first, 0), BLOCK)) - 1
            found.append(shown & lesser & ~mask if self.shown[ring] else 0)
        return found


def reach_of(view):
    """What the bindings of a view come to; it is kept there until a patch comes that binds."""
    if view.reach is None:
        view.reach = Reach(view)
    return view.reach


def show_of(view):
    """What of a view is told; it is kept there until the view grows."""
    if view.show is None:
        view.show = Show(view)
    return view.show


def bindings_in(view):
    """For each pair of lines that are bound straight the first binding that binds it."""
    reach = reach_of(view)
    if reach.bindings is None:
        reach.bindings = {(HEAD, FOOT): None}
        for work in _works_in(view):
            for pair, binding in work.bindings:
                reach.bindings.setdefault(pair, binding)
    return reach.bindings


def _works_in(view):
    """The works of a view's patches, by names rising."""
    return [work_of(view.patches[name]) for name in view.names()]


def _behind(numbers, works):
    """For each line the lines bound straight behind it, rising."""
    rows = [{} for _ in numbers]
    rows[HEAD_NUMBER][FOOT_NUMBER] = True
    for work in works:
        for one, other in work.pairs:
            rows[numbers[one]][numbers[other]] = True
    return [sorted(row) for row in rows]


def _rings(behind):
    """All rings, each rising, those that are behind others ahead of these; and for each line its ring's number.

    One walk from the head line comes to all lines. A line on the path from which no line ahead of it on the
    path is come to again ends a ring, which is all that stands on the path from it on.
    """
    rings = []
    ring_at = [-1] * len(behind)
    # When each line was come to, from 1, and how many of those behind it were looked at.
    came = [0] * len(behind)
    looked = [0] * len(behind)
    count = 1
    came[HEAD_NUMBER] = count
    walk, path, starts = [HEAD_NUMBER], [HEAD_NUMBER], [1]
    while walk:
        one = walk[-1]
        if looked[one] < len(behind[one]):
            other = behind[one][looked[one]]
            looked[one] += 1
            if came[other] == 0:
                count += 1
                came[other] = count
                walk.append(other)
                path.append(other)
                starts.append(count)
            elif ring_at[other] < 0:
                while starts[-1] > came[other]:
                    starts.pop()
            continue
        walk.pop()
        if starts[-1] == came[one]:
            starts.pop()
            rings.append(_cut_path(path, one, ring_at, len(rings)))
    return rings, ring_at


def _cut_path(path, one, ring_at, ring):
    """Take a ring, all from one line on, off the path, and note its number."""
    found = []
    while not found or found[-1] != one:
        found.append(path.pop())
        ring_at[found[-1]] = ring
    return sorted(found)


def _straight(behind, rings, ring_at):
    """For each ring the other rings bound straight behind it, each once."""
    rows = []
    for at, ring in enumerate(rings):
        found = {}
        for number in ring:
            for other in behind[number]:
                if ring_at[other] != at:
                    found[ring_at[other]] = True
        rows.append(list(found))
    return rows


def steps_from(reach, start):
    """For each line behind a line the one straight ahead of it on the least of the shortest ways, by numbers."""
    ahead = {}
    # Levels are in the order of these ways; the line itself is come to, too, if it lies in a ring.
    level = [start]
    while level:
        found = []
        for number in level:
            for other in reach.behind[number]:
                if other not in ahead:
                    ahead[other] = number
                    found.append(other)
        level = found
    return ahead


def way_by(ahead, start, end):
    """The way from a line to another one that such steps tell."""
    way = [end, ahead[end]]
    while way[-1] != start:
        way.append(ahead[way[-1]])
    return way[::-1]
