"""What patches know of each other, told by a table of patches from their names."""

from heapq import heapify, heappop, heappush


def closure(patches, names):
    """The least closed set that has these names, as the keys of a dict."""
    found = {}
    left = list(names)
    while left:
        name = left.pop()
        if name not in found:
            found[name] = True
            left.extend(patches[name].knows)
    return found


def lacking_in(patches, names):
    """All that these names know altogether that isn't among them, rising."""
    inside = set(names)
    return sorted([name for name in closure(patches, names) if name not in inside])


def known_under(patches, names):
    """All that some of these names know altogether, as the keys of a dict."""
    return closure(patches, [known for name in names for known in patches[name].knows])


def tops_in(patches, names):
    """Those of some names that no other one of them knows altogether, rising."""
    known = known_under(patches, names)
    return sorted({name for name in names if name not in known})


def log_in(patches, names):
    """The log of a closed set."""
    return log_by({name: patches[name].knows for name in names})


def log_by(table):
    """All names of a table in a row, the least one first of those of which all that they know stands ahead.

    The table has for each name what it knows directly; what is known and isn't in the table stands ahead of all.
    """
    waiting = {}
    knowing = {name: [] for name in table}
    ready = []
    for name, knows in table.items():
        inside = [known for known in knows if known in table]
        waiting[name] = len(inside)
        for known in inside:
            knowing[known].append(name)
        if not inside:
            ready.append(name)
    heapify(ready)
    row = []
    while ready:
        name = heappop(ready)
        row.append(name)
        for other in knowing[name]:
            waiting[other] -= 1
            if waiting[other] == 0:
                heappush(ready, other)
    return row


def shortest_row(patches, one, other):
    """The shortest row in which each patch knows the next one directly, of several the least, or None."""
    # Each name's neighbour on the least of the shortest rows to it. Levels are in the order of these rows.
    ahead = {}
    level = [one]
    while level and other not in ahead:
        found = []
        for name in level:
            for known in patches[name].knows:
                if known not in ahead:
                    ahead[known] = name
                    found.append(known)
        level = found
    if other not in ahead:
        return None
    row = [other]
    while row[-1] != one:
        row.append(ahead[row[-1]])
    return row[::-1]
