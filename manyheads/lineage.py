"""What patches of a store know of each other, told by a table of them from their names.

Each patch has a place there, from 0, in the order of the table, in which what a patch knows stands ahead of it. What
it knows altogether is told by the bits of a number: the bit of a patch is its place.
"""

from heapq import heapify, heappop, heappush


def has_place(bits, place):
    """Whether the patch of a place is among those that a number tells by its bits."""
    return (bits >> place) & 1 == 1


def bits_of(patches, names):
    """The bits of some names."""
    bits = 0
    for name in names:
        bits = bits | (1 << patches[name].place)
    return bits


def known_bits(patches, names):
    """The bits of all that some names know altogether."""
    bits = 0
    for name in names:
        bits = bits | patches[name].known
    return bits


def names_by(patches, bits):
    """The names that a number tells by its bits, rising."""
    return sorted([name for place, name in enumerate(patches) if (bits >> place) & 1 == 1])


def closure(patches, names):
    """The least closed set that has these names, rising."""
    return names_by(patches, bits_of(patches, names) | known_bits(patches, names))


def lacking_in(patches, names):
    """All that these names know altogether that isn't among them, rising."""
    bits = known_bits(patches, names) & ~bits_of(patches, names)
    return names_by(patches, bits) if bits > 0 else []


def tops_in(patches, names):
    """Those of some names that no other one of them knows altogether, rising."""
    known = known_bits(patches, names)
    return sorted({name for name in names if not has_place(known, patches[name].place)})


def log_in(patches, names):
    """The log of a closed set."""
    return log_by({name: patches[name].knows for name in names})


def log_by(table):
    """All names of a table in a row, the least one first of those of which all that they know stands ahead.

    The table has for each name what it knows directly; what is known and isn't in the table stands ahead of all.
    """
    waiting = {}
    knowing = {name: [] for name in table}
    ready = []
    for name, knows in table.items():
        inside = [known for known in knows if known in table]
        waiting[name] = len(inside)
        for known in inside:
            knowing[known].append(name)
        if not inside:
            ready.append(name)
    heapify(ready)
    row = []
    while ready:
        name = heappop(ready)
        row.append(name)
        for other in knowing[name]:
            waiting[other] -= 1
            if waiting[other] == 0:
                heappush(ready, other)
    return row


def shortest_row(patches, one, other):
    """The shortest row in which each patch knows the next one directly, of several the least, or None."""
    # Each name's neighbour on the least of the shortest rows to it. Levels are in the order of these rows.
    ahead = {}
    level = [one]
    while level and other not in ahead:
        found = []
        for name in level:
            for known in patches[name].knows:
                if known not in ahead:
                    ahead[known] = name
                    found.append(known)
        level = found
    if other not in ahead:
        return None
    row = [other]
    while row[-1] != one:
        row.append(ahead[row[-1]])
    return row[::-1]
