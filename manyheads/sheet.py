"""The sheet of a view: its told lines in a row, and its knots."""

from heapq import heappop, heappush

from manyheads.errors import OutOfPlace
from manyheads.marks import put_text
from manyheads.reach import BLOCK, HEAD_NUMBER, show_of
from manyheads.words import is_put_line


def knots(view):
    """All knots, one behind the other, each a list of its lines, rising."""
    show = show_of(view)
    if show.knots is None:
        show.knots = _knots_in(show)
    return [show.reach.lines_of(knot) for knot in show.knots]


def knot_of(view, line):
    """The knot of a told line."""
    if is_put_line(line):
        for knot in knots(view):
            if line in knot:
                return knot
    raise OutOfPlace("this is no told line of the view")


def told_row(view):
    """All told lines, none ahead of one that is ahead of it but in its ring."""
    show = show_of(view)
    if show.told_row is None:
        show.told_row = _row_in(show)
    return show.reach.lines_of(show.told_row)


def sheet_texts(view):
    """The texts of the told row."""
    return [put_text(view, line) for line in told_row(view)]


def _knots_in(show):
    """The numbers of the lines of each knot.

    Of a ring and a lesser one to which it is loose, each ring between them, having told lines, is loose to one
    of the two. So knots are rows of rings whose numbers stand side by side, but for rings without told lines.
    """
    rings = [ring for ring, numbers in enumerate(show.shown) if numbers]
    least = _least_loose(show)
    starts = []
    for at, ring in enumerate(rings):
        start = at
        while start > 0 and rings[start - 1] >= least[ring]:
            start = starts.pop()
        starts.append(start)
    found = []
    for start, end in zip(starts, starts[1:] + [len(rings)]):
        found.append(sorted([number for ring in rings[start:end] for number in show.shown[ring]]))
    return found[::-1]


def _least_loose(show):
    """For each ring the least of all lesser ones to which it is loose, or itself."""
    least = list(range(len(show.shown)))
    for block in range(show.reach.blocks() - 1, -1, -1):
        for ring, bits in enumerate(show.loose_in(block)):
            if bits > 0:
                least[ring] = block * BLOCK + (bits & -bits).bit_length() - 1
    return least


def _row_in(show):
    """The numbers of the told row's lines."""
    reach = show.reach
    waiting = [0] * len(reach.rings)
    for others in reach.straight:
        for other in others:
            waiting[other] += 1
    left = [len(numbers) for numbers in show.shown]
    row, ready, done = [], [], [reach.ring_at[HEAD_NUMBER]]
    while done or ready:
        # Rings whose told lines are all in the row let those behind them come, ahead of the next line.
        if done:
            ring = done.pop()
            for other in reach.straight[ring]:
                waiting[other] -= 1
                if waiting[other] == 0:
                    _let_come(show, other, ready, done)
            continue
        row.append(heappop(ready))
        ring = reach.ring_at[row[-1]]
        left[ring] -= 1
        if left[ring] == 0:
            done.append(ring)
    return row


def _let_come(show, ring, ready, done):
    """Make ready the told lines of a ring; without any it is done at once."""
    if not show.shown[ring]:
        done.append(ring)
    for number in show.shown[ring]:
        heappush(ready, number)
