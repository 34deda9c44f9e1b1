"""Rings of lines, and lines that are loose."""

from manyheads.order import number_in
from manyheads.reach import BLOCK, reach_of


def ring_of(view, line):
    """The ring of a line, rising; the line alone where there are no others in it."""
    number = number_in(view, line)
    reach = reach_of(view)
    return reach.lines_of(reach.rings[reach.ring_at[number]])


def rings_of(view):
    """All rings of two lines and more, by their first ones."""
    reach = reach_of(view)
    return [reach.lines_of(ring) for ring in sorted(reach.rings) if len(ring) > 1]


def loose_pairs(view):
    """All pairs of loose lines, rising, the lesser one first in each."""
    reach = reach_of(view)
    pairs = []
    for block in range(reach.blocks()):
        for ring, bits in enumerate(reach.loose_in(block)):
            for place in _places_in(bits):
                pairs.extend(_pairs_of(reach.shown[ring], reach.shown[block * BLOCK + place]))
    return [(reach.lines[one], reach.lines[other]) for one, other in sorted(pairs)]


def _places_in(bits):
    """The places of the bits of a number, rising."""
    places = []
    while bits > 0:
        places.append((bits & -bits).bit_length() - 1)
        bits = bits & (bits - 1)
    return places


def _pairs_of(some, others):
    """Each of some numbers with each of others, the lesser one first."""
    return [(min(one, other), max(one, other)) for one in some for other in others]
