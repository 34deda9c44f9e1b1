"""Sets of names of a store's patches: their tops, what is under them, their logs."""

from manyheads.errors import NotClosed, OutOfPlace
from manyheads.lineage import known_bits, lacking_in, log_in, names_by, shortest_row, tops_in
from manyheads.store import has_name, has_names


def tops(store, names):
    """Those of some names that no other one of them knows altogether, rising."""
    _check_names(store, names)
    return tops_in(store.patches, names)


def under(store, names):
    """All that some names know altogether, rising."""
    _check_names(store, names)
    return names_by(store.patches, known_bits(store.patches, names))


def log_of(store, names):
    """The log of a closed set."""
    _check_names(store, names)
    lacking = lacking_in(store.patches, names)
    if lacking:
        raise NotClosed(lacking)
    return log_in(store.patches, names)


def lacking_log(store, head, other):
    """What a head lacks of another one, in the order of the other one's log."""
    own = {name: True for name in store.head_set(head)}
    return [name for name in log_in(store.patches, store.head_set(other)) if name not in own]


def common(store, head, other):
    """What the sets of two heads both have, rising."""
    own = {name: True for name in store.head_set(head)}
    return [name for name in store.head_set(other) if name in own]


def knowing_row(store, one, other):
    """The shortest row that leads from a patch to another one, of several the least, or None."""
    for name in (one, other):
        if not has_name(store.patches, name):
            raise OutOfPlace("this is no name of a patch that is there")
    return shortest_row(store.patches, one, other)


def _check_names(store, names):
    if not has_names(store.patches, names):
        raise OutOfPlace("this is no list of names of patches that are there")
