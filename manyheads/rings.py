"""Rings of lines, and lines that are loose."""

from manyheads.aheads import aheads_of
from manyheads.marks import check_line
from manyheads.reach import BLOCK, reach_of, show_of


def ring_of(view, line):
    """The ring of a line, rising; the line alone where there are no others in it."""
    check_line(view, line)
    aheads = aheads_of(view)
    if aheads is not None:
        return aheads.lines_around(line)
    reach = reach_of(view)
    return reach.lines_of(reach.rings[reach.ring_at[reach.numbers[line]]])


def rings_of(view):
    """All rings of two lines and more, by their first ones."""
    reach = reach_of(view)
    return [reach.lines_of(ring) for ring in sorted(reach.rings) if len(ring) > 1]


def loose_pairs(view):
    """All pairs of loose lines, rising, the lesser one first in each."""
    reach, show = reach_of(view), show_of(view)
    pairs = []
    for block in range(reach.blocks()):
        for ring, bits in enumerate(show.loose_in(block)):
            for place in _places_in(bits):
                pairs.extend(_pairs_of(show.shown[ring], show.shown[block * BLOCK + place]))
    return [(reach.lines[one], reach.lines[other]) for one, other in sorted(pairs)]


def _places_in(bits):
    """The places of the bits of a number, rising."""
    places = []
    while bits > 0:
        places.append((bits & -bits).bit_length() - 1)
        bits = bits & (bits - 1)
    return places


def _pairs_of(some, others):
    """Each of some numbers with each of others, the lesser one first."""
    return [(min(one, other), max(one, other)) for one in some for other in others]
