"""Histories: a store, and all states that its heads ever had, as a tree of undoing."""

from manyheads.errors import OutOfPlace
from manyheads.words import is_among


class History:
    """A history. Its store has the heads of the state at which it is.

    Of each state are kept its parent, the child to which redo leads from it, and its heads as a store has them.
    """

    def __init__(self, store):
        self.store = store.copied()
        self.at = 0
        self.parents = [None]
        self.next_ones = [None]
        self.tables = [dict(self.store.sets)]

    def here(self):
        """The number of the state at which it is."""
        return self.at

    def how_many(self):
        """How many states there are."""
        return len(self.parents)

    def parent(self, number):
        """The parent of a state, None of state 0."""
        self._check_number(number)
        return self.parents[number]

    def children(self, number):
        """The children of a state, rising."""
        self._check_number(number)
        return [child for child, parent in enumerate(self.parents) if parent == number]

    def latest(self, number):
        """The child of a state to which redo leads from it, or None."""
        self._check_number(number)
        return self.next_ones[number]

    def heads_at(self, number):
        """The names of each head's set in a state."""
        self._check_number(number)
        return {head: list(names) for head, names in sorted(self.tables[number].items())}

    def store_at(self, number):
        """A store with all patches, and the heads of a state."""
        self._check_number(number)
        store = self.store.copied()
        store.sets = dict(self.tables[number])
        return store

    def set_head(self, head, names):
        """Give a head just these names."""
        self.store.set_head(head, names)
        self._note()

    def drop_head(self, head):
        """Take a head away."""
        self.store.drop_head(head)
        self._note()

    def merge_heads(self, head, other):
        """Give a head its own set and another head's."""
        self.store.merge_heads(head, other)
        self._note()

    def pick(self, head, name):
        """Give a head a patch more, and all that it knows altogether."""
        self.store.pick(head, name)
        self._note()

    def take_out(self, head, name):
        """Take a patch out of a head's set."""
        self.store.take_out(head, name)
        self._note()

    def take_with(self, head, name):
        """Take a patch out of a head's set, with all those of it that know it altogether."""
        self.store.take_with(head, name)
        self._note()

    def put_patch(self, patch):
        """Take a patch in."""
        self.store.put_patch(patch)

    def undo(self):
        """Go to the parent of the state at which it is."""
        if self.at == 0:
            raise OutOfPlace("state 0 has no parent")
        self._come_to(self.parents[self.at])

    def redo(self):
        """Go to that child at which it was latest."""
        if self.next_ones[self.at] is None:
            raise OutOfPlace("this state has no child")
        self._come_to(self.next_ones[self.at])

    def go(self, number):
        """Go to a state."""
        self._check_number(number)
        self._come_to(number)

    def way(self, one, other):
        """The states from one to another, each a child or the parent of the next one."""
        self._check_number(one)
        self._check_number(other)
        up, down = [one], [other]
        # A parent has the lesser number, so the greater of two unlike ones isn't the ancestor of the other.
        while up[-1] != down[-1]:
            row = up if up[-1] > down[-1] else down
            row.append(self.parents[row[-1]])
        return up + down[-2::-1]

    def sweep(self):
        """Take out all patches that no head of any state has; their names, rising."""
        some = {names: True for table in self.tables for names in table.values()}
        return self.store.sweep([list(names) for names in some])

    def copied(self):
        """Another history alike."""
        return history_with(self.store, self.at, list(self.parents), list(self.next_ones), list(self.tables))

    def told(self):
        """The state at which it is, and of each state its parent, the child to which redo leads, and its heads."""
        states = []
        for parent, latest, table in zip(self.parents, self.next_ones, self.tables):
            states.append((parent, latest, tuple(sorted(table.items()))))
        return (self.at, tuple(states))

    def _check_number(self, number):
        if not is_among(number, 0, len(self.parents) - 1):
            raise OutOfPlace("this is no state's number")

    def _note(self):
        """Make a state more, if some head isn't as it was."""
        if self.store.sets != self.tables[self.at]:
            self.parents.append(self.at)
            self.next_ones.append(None)
            self.tables.append(dict(self.store.sets))
            self._come_to(len(self.parents) - 1)

    def _come_to(self, number):
        """Be at a state; so it is the one of all its parent's children at which the history was latest."""
        self.at = number
        self.store.sets = dict(self.tables[number])
        if number > 0:
            self.next_ones[self.parents[number]] = number


def history_of(store, told):
    """A history that tells just this, of a store that has all its patches."""
    here, states = told
    tables = [{head: tuple(names) for head, names in state[2]} for state in states]
    return history_with(store, here, [state[0] for state in states], [state[1] for state in states], tables)


def history_with(store, at, parents, next_ones, tables):
    """A history with these states. Tables are never changed, so two histories may have the same ones."""
    history = History(store)
    history.at = at
    history.parents = parents
    history.next_ones = next_ones
    history.tables = tables
    history.store.sets = dict(tables[at])
    return history
