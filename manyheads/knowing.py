"""Views of a store and a closed set of its patches; what knows what in them."""

from manyheads.errors import NotClosed, OutOfPlace
from manyheads.lineage import closure, lacking_in, shortest_row
from manyheads.patch import lines_put, marks_in, patch_again
from manyheads.store import Store, has_name, has_names


class View:
    """A store as it was when the view was made, and a closed set of its patches.

    Of each patch of the set, what it knows altogether is kept as the bits of a number: the bit of a patch
    is its place in the order in which the patches came to the set.
    """

    def __init__(self, store, names):
        if not isinstance(store, Store) or not has_names(store.patches, names):
            raise OutOfPlace("this is no list of names of a store's patches")
        lacking = lacking_in(store.patches, names)
        if lacking:
            raise NotClosed(lacking)
        self.store = store.copied()
        self.places = {}
        self.known = {}
        self.texts = {}
        self.marks = {}
        # What the bindings come to is found when it is first asked for.
        self.reach = None
        inside = set(names)
        # In a store what a patch knows came ahead of it.
        for name in self.store.patches:
            if name in inside:
                self._take(name)

    def names(self):
        """The names of the set, rising."""
        return sorted(self.places)

    def patch_of(self, name):
        """The patch of a name of the set."""
        check_name(self, name)
        return patch_again(self.store.patches[name])

    def add_patch(self, name):
        """Take a patch of the store into the set; whether it is new in it."""
        if not has_name(self.store.patches, name):
            raise OutOfPlace("this is no name of a patch that the store had")
        if name in self.places:
            return False
        knows = self.store.patches[name].knows
        lacking = [known for known in closure(self.store.patches, knows) if known not in self.places]
        if lacking:
            raise NotClosed(sorted(lacking))
        self._take(name)
        return True

    def copied(self):
        """Another view alike."""
        return View(self.store, self.names())

    def _take(self, name):
        """Take in a patch of which the set has all that it knows."""
        patch = self.store.patches[name]
        self.reach = None
        known = 0
        for other in patch.knows:
            known = known | self.known[other] | (1 << self.places[other])
        self.places[name] = len(self.places)
        self.known[name] = known
        for line, text in lines_put(patch):
            self.texts[line] = text
        for line, mark in marks_in(patch):
            self.marks.setdefault(line, []).append((name, mark))


def check_name(view, name):
    """Refuse what is no name of the view's set."""
    if not has_name(view.places, name):
        raise OutOfPlace("this is no name of a patch of the view")


def has_place(known, place):
    """Whether the patch of a place is among those that a number tells by its bits."""
    return (known >> place) & 1 == 1


def known_by(view, name):
    """All names that a patch knows altogether, rising."""
    check_name(view, name)
    known = view.known[name]
    return [other for other in view.names() if has_place(known, view.places[other])]


def knows_it(view, one, other):
    """Whether a patch knows another one altogether."""
    check_name(view, one)
    check_name(view, other)
    return has_place(view.known[one], view.places[other])


def knowing_way(view, one, other):
    """The shortest knowing way from a patch to another one, of several the least, or None."""
    if not knows_it(view, one, other):
        return None
    return shortest_row(view.store.patches, one, other)
