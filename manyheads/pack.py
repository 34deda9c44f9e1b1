"""Packs: a store, or a history, as one text; and thin packs of what one closed set has and another one hasn't."""

from manyheads.errors import NotClosed, OutOfPlace
from manyheads.history import History
from manyheads.lineage import closure, lacking_in, log_in, tops_in
from manyheads.patchtext import patch_rows
from manyheads.store import has_names
from manyheads.words import name_text

SUM_FACTOR = 257
SUM_MODULUS = 1000000007
LINE_END = 10


def sum_of(rows):
    """The sum over all signs of some rows, with a line end behind each."""
    total = 0
    for row in rows:
        for sign in row:
            total = (total * SUM_FACTOR + ord(sign)) % SUM_MODULUS
        total = (total * SUM_FACTOR + LINE_END) % SUM_MODULUS
    return total


def pack_text(kept):
    """The pack of a store or a history."""
    store = kept.store if isinstance(kept, History) else kept
    rows = ["pack"] + _rows_of(store.patches, log_in(store.patches, store.patches))
    if isinstance(kept, History):
        rows.extend(_state_rows(kept))
    else:
        rows.extend(_head_rows(store.patches, store.sets))
    return _with_sum(rows)


def thin(store, names, have):
    """The thin pack of what the least closed set with some names has and another closed set hasn't."""
    for some in (names, have):
        if not has_names(store.patches, some):
            raise OutOfPlace("this is no list of names of patches that are there")
    lacking = lacking_in(store.patches, have)
    if lacking:
        raise NotClosed(lacking)
    there = set(have)
    row = [name for name in log_in(store.patches, closure(store.patches, names)) if name not in there]
    return _with_sum(["thin"] + _rows_of(store.patches, row))


def _with_sum(rows):
    """The text of some rows and their sum's."""
    return "\n".join([*rows, f"sum {sum_of(rows)}"])


def _rows_of(patches, names):
    """The rows of some patches, in this order; texts that stood in a row ahead are told by their numbers."""
    numbers = {}
    rows = []
    for name in names:
        for row in patch_rows(patches[name]):
            if row in numbers:
                rows.append(f"={numbers[row]}")
                continue
            # Just the rows of texts begin so.
            if row.startswith("+"):
                numbers[row] = len(numbers)
            rows.append(row)
    return rows


def _head_rows(patches, sets):
    """The rows of heads."""
    return [f"head {head} {_tops_text(patches, sets[head])}" for head in sorted(sets)]


def _tops_text(patches, names):
    """The words that tell the tops of a closed set."""
    return " ".join([name_text(name) for name in tops_in(patches, names)]) or "none"


def _state_rows(history):
    """The rows of a history's states."""
    patches = history.store.patches
    rows = [f"states {len(history.parents)} {history.at} {_latest_text(history, 0)}"]
    rows.extend(_head_rows(patches, history.tables[0]))
    for number in range(1, len(history.parents)):
        parent, table = history.parents[number], history.tables[number]
        head = _changed_head(history.tables[parent], table)
        worth = _tops_text(patches, table[head]) if head in table else "gone"
        rows.append(f"state {parent} {_latest_text(history, number)} {head} {worth}")
    return rows


def _latest_text(history, number):
    """The word that tells to which child redo leads from a state."""
    latest = history.next_ones[number]
    return "none" if latest is None else str(latest)


def _changed_head(before, table):
    """The one head that lacks in one of two tables, or has another set there."""
    for head in [*before, *table]:
        if before.get(head) != table.get(head):
            return head
    return None
