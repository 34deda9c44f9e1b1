"""Least differences of two rows of texts."""


def least_change(rows, others):
    """The like pairs that the least change keeps, and all like pairs by levels."""
    return (_kept(rows, others), _levels(rows, others))


def least_cost(rows, others):
    """How many texts the least change puts and cuts."""
    return len(rows) + len(others) - 2 * len(_levels(rows, others))


def _levels(rows, others):
    """The like pairs, parted by how many pairs at the most a row has that they end; each part rising."""
    places = {}
    for place, text in enumerate(others):
        places.setdefault(text, []).append(place)
    levels = []
    # The least second place that each level has so far; these rise.
    least = []
    for at, text in enumerate(rows):
        level = len(levels)
        # From the greatest place on: so no pair stands behind another one of the same first place.
        for place in reversed(places.get(text, [])):
            while level > 0 and least[level - 1] >= place:
                level -= 1
            if level == len(levels):
                levels.append([])
                least.append(place)
            levels[level].append((at, place))
            least[level] = place
    return [sorted(level) for level in levels]


def _kept(rows, others):
    """The least list of as many like pairs as can be kept together.

    Read from behind, the levels tell of each pair how many can be kept from it on. So the K-th last pair kept is
    of the K-th of these, and any pair of it that stands behind those kept so far leaves enough behind itself.
    """
    kept = []
    for level in reversed(_levels(rows[::-1], others[::-1])):
        pairs = sorted([(len(rows) - 1 - at, len(others) - 1 - place) for at, place in level])
        for at, place in pairs:
            if not kept or (at > kept[-1][0] and place > kept[-1][1]):
                kept.append((at, place))
                break
    return kept
