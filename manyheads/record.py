"""Recording: the patch that makes a head's sheet some wanted rows."""

from manyheads.alike import least_change
from manyheads.errors import OutOfPlace
from manyheads.knowing import View
from manyheads.lineage import tops_in
from manyheads.marks import last_marks, put_text, state_of
from manyheads.order import is_ahead
from manyheads.patch import MOST_DEEDS, MOST_TEXTS, Patch, is_text, lines_named
from manyheads.quarrels import is_plain
from manyheads.reach import reach_of
from manyheads.sheet import sheet_texts, told_row
from manyheads.words import FOOT, HEAD, is_hand, is_name


def recorded(store, head, hand, rows):
    """The patch of the recorded change, or None where nothing is to be changed."""
    names = store.head_set(head)
    if not is_hand(hand):
        raise OutOfPlace("this is no hand")
    if not isinstance(rows, list) or len(rows) > MOST_TEXTS or not all(is_text(text) for text in rows):
        raise OutOfPlace("this is no list of rows of a sheet")
    view = View(store, names)
    if sheet_texts(view) == rows and is_plain(view):
        return None
    name = (hand, max([number for other, number in store.names() if other == hand], default=0) + 1)
    if not is_name(name):
        raise OutOfPlace("the hand has no number left")
    deeds = _deeds(view, rows)
    if len(deeds) > MOST_DEEDS:
        raise OutOfPlace("no patch has as many deeds")
    return Patch(name, _known(view, deeds), deeds)


def _deeds(view, rows):
    """The deeds of the recorded change."""
    keepable = _keepable(view)
    pairs, _ = least_change([put_text(view, line) for line in keepable], rows)
    kept = [keepable[at] for at, _ in pairs]
    places = [place for _, place in pairs]
    stay = {line: True for line in kept}
    deeds = [("cut", line) for line in told_row(view) if line not in stay]
    deeds.extend([("keep", line) for line in kept if state_of(view, line) == "torn"])
    return deeds + _joins(view, kept, places, rows)


def _keepable(view):
    """The lines of the told row, but of each ring only the first one."""
    reach = reach_of(view)
    found = {}
    for line in told_row(view):
        found.setdefault(reach.ring_at[reach.numbers[line]], line)
    return list(found.values())


def _joins(view, kept, places, rows):
    """The puts and orders that the wanted rows ask for; the kept lines stand at these places of them."""
    lines = [HEAD, *kept, FOOT]
    ends = [-1, *places, len(rows)]
    deeds = []
    for at in range(len(lines) - 1):
        above, below = lines[at], lines[at + 1]
        between = rows[ends[at] + 1:ends[at + 1]]
        if between:
            deeds.append(("put", above, below, tuple(between)))
        # The head line is ahead of all others, and these of the foot line: no order names one of the two.
        elif not is_ahead(view, above, below):
            deeds.append(("order", above, below))
    return deeds


def _known(view, deeds):
    """What the recorded patch knows directly."""
    found = {}
    for deed in deeds:
        for line in lines_named(deed):
            found[line[:2]] = True
        if deed[0] in ("cut", "keep"):
            for name, mark in last_marks(view, deed[1]):
                if mark != deed[0]:
                    found[name] = True
    return tops_in(view.patches, found)
