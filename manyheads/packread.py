"""Reading packs of stores and histories, and thin packs, row by row."""

from manyheads.history import history_with
from manyheads.lineage import closure, tops_in
from manyheads.packpatches import PackRows, read_all_patches, read_sum
from manyheads.store import Store, put_together
from manyheads.words import count_of, is_word, name_of


def pack_read(text):
    """The store or the history that a pack tells."""
    pack = PackRows(text, "pack")
    read_all_patches(pack)
    store = Store()
    store.patches = pack.patches
    if pack.row_word() == "states":
        states = _read_states(pack)
        read_sum(pack)
        return history_with(store, states.here_at, states.parents, states.next_ones, states.tables)
    store.sets = _read_heads(pack)
    read_sum(pack)
    return store


def thick(store, text):
    """Put the patches of a thin pack into a store; those that are new to it, as they stand in the pack."""
    pack = PackRows(text, "thin")
    read_all_patches(pack)
    read_sum(pack)
    return put_together(store, list(pack.patches.values()))


def _read_heads(pack):
    """The sets of the heads that the next rows tell."""
    sets = {}
    last = ""
    while pack.row_word() == "head":
        words = pack.words()
        if len(words) < 3 or not is_word(words[1]) or words[1] <= last:
            pack.refuse()
        last = words[1]
        sets[last] = _set_told(pack, words[2:])
        pack.many_read += 1
    return sets


def _set_told(pack, words):
    """The closed set whose tops some words of the next row tell."""
    if words == ["none"]:
        return ()
    tops = [name_of(word) for word in words]
    if not all(name in pack.patches for name in tops) or tops_in(pack.patches, tops) != tops:
        pack.refuse()
    return tuple(closure(pack.patches, tops))


class States:
    """The states of a history as far as they were read.

    That redo leads from a state to a later one is known ahead of this one, and so is its parent then.
    """

    def __init__(self, count, here_at):
        self.count = count
        self.here_at = here_at
        self.parents = []
        self.next_ones = []
        self.tables = []
        self.due_parents = {}


def _read_states(pack):
    """Read all states of a history."""
    words = pack.words()
    if len(words) != 4:
        pack.refuse()
    count, here_at = count_of(words[1]), count_of(words[2])
    if count is None or here_at is None or here_at >= count:
        pack.refuse()
    states = States(count, here_at)
    _take_state(pack, states, None, words[3])
    if count > 1 and states.next_ones[0] is None:
        pack.refuse()
    pack.many_read += 1
    states.tables.append(_read_heads(pack))
    while len(states.parents) < count:
        _read_state(pack, states)
    return states


def _read_state(pack, states):
    """Read a later state."""
    words = pack.words()
    if len(words) < 5 or words[0] != "state" or not is_word(words[3]):
        pack.refuse()
    number, parent, head = len(states.parents), count_of(words[1]), words[3]
    # A state from which redo leads nowhere has no children.
    if parent is None or parent >= number or states.next_ones[parent] is None:
        pack.refuse()
    if states.due_parents.get(number, parent) != parent:
        pack.refuse()
    _take_state(pack, states, parent, words[2])
    table = dict(states.tables[parent])
    if words[4:] == ["gone"]:
        if head not in table:
            pack.refuse()
        del table[head]
    else:
        names = _set_told(pack, words[4:])
        if table.get(head) == names:
            pack.refuse()
        table[head] = names
    states.tables.append(table)
    pack.many_read += 1


def _take_state(pack, states, parent, word):
    """Take in a state's parent, and the word that tells to which child redo leads from it."""
    number = len(states.parents)
    latest = None if word == "none" else count_of(word)
    if word != "none":
        if latest is None or not number < latest < states.count or latest in states.due_parents:
            pack.refuse()
        states.due_parents[latest] = number
    # Redo leads from its parent to the state at which the history is; behind this row no state ahead of it comes.
    if number + 1 == states.here_at and states.here_at not in states.due_parents:
        pack.refuse()
    states.parents.append(parent)
    states.next_ones.append(latest)
