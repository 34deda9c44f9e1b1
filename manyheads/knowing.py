"""Views of a store and a closed set of its patches; what knows what in them."""

from manyheads.errors import NotClosed, OutOfPlace
from manyheads.lineage import has_place, lacking_in, log_in, names_by, shortest_row
from manyheads.patch import patch_again, work_of
from manyheads.store import Store, has_name, has_names
from manyheads.words import FOOT, HEAD, is_triple

# What is told of the head and the foot line: no marks, no last ones, and a state.
OF_ENDS = ((), (), "stands")


class View:
    """The patches of a store as they were when the view was made, and a closed set of them.

    The set is told by bits, as the store tells what a patch knows altogether. Of each line that its patches put
    the marks are kept as they came. What all this comes to is found when it is asked for, and kept while it holds.
    """

    def __init__(self, store, names):
        if not isinstance(store, Store) or not has_names(store.patches, names):
            raise OutOfPlace("this is no list of names of a store's patches")
        lacking = lacking_in(store.patches, names)
        if lacking:
            raise NotClosed(lacking)
        # Never changed, so copies of the view have the same table.
        self.patches = {name: store.patches[name] for name in store.patches}
        self.inside = 0
        self.marks = {}
        # For each line its marks, rising, its last marks and its state, or None where a mark came.
        self.line_rows = {HEAD: OF_ENDS, FOOT: OF_ENDS}
        # Which lines are ahead of which, but for what the patches bind that came since.
        self.aheads = None
        self.coming = []
        self.reach = None
        self.show = None
        self.log = None
        inside = set(names)
        # In a store what a patch knows came ahead of it.
        for name, patch in self.patches.items():
            if name in inside:
                self._take(patch)

    def names(self):
        """The names of the set, rising."""
        return names_by(self.patches, self.inside)

    def patch_of(self, name):
        """The patch of a name of the set."""
        check_name(self, name)
        return patch_again(self.patches[name])

    def add_patch(self, name):
        """Take a patch of the store into the set; whether it is new in it."""
        if not has_name(self.patches, name):
            raise OutOfPlace("this is no name of a patch that the store had")
        patch = self.patches[name]
        if has_place(self.inside, patch.place):
            return False
        lacking = patch.known & ~self.inside
        if lacking > 0:
            raise NotClosed(names_by(self.patches, lacking))
        self._take(patch)
        return True

    def copied(self):
        """Another view alike."""
        other = View(Store(), [])
        other.patches = self.patches
        other.inside = self.inside
        other.marks = {line: self.marks[line] for line in self.marks}
        other.line_rows = {line: self.line_rows[line] for line in self.line_rows}
        other.aheads = self.aheads
        other.coming = list(self.coming)
        other.reach = self.reach
        other.show = self.show
        other.log = self.log
        return other

    def has_member(self, thing):
        """Whether a thing is one of the names of the set."""
        return has_name(self.patches, thing) and has_place(self.inside, self.patches[thing].place)

    def has_put(self, thing):
        """Whether a thing is a line that a patch of the set puts."""
        return is_triple(thing) and thing in self.marks

    def _take(self, patch):
        """Take in a patch of which the set has all that it knows."""
        work = work_of(patch)
        self.inside = self.inside | (1 << patch.place)
        self.show = None
        self.log = None
        if work.pairs:
            self.coming.append(patch)
            self.reach = None
        for line, mark in work.marks:
            self.marks[line] = (*self.marks.get(line, ()), mark)
            self.line_rows[line] = None


def check_name(view, name):
    """Refuse what is no name of the view's set."""
    if not view.has_member(name):
        raise OutOfPlace("this is no name of a patch of the view")


def log_in_view(view):
    """The log of a view's set; it is kept there until the view grows, and never changed."""
    if view.log is None:
        view.log = log_in(view.patches, view.names())
    return view.log


def known_by(view, name):
    """All names that a patch knows altogether, rising."""
    check_name(view, name)
    return names_by(view.patches, view.patches[name].known)


def knows_it(view, one, other):
    """Whether a patch knows another one altogether."""
    check_name(view, one)
    check_name(view, other)
    return has_place(view.patches[one].known, view.patches[other].place)


def knowing_way(view, one, other):
    """The shortest knowing way from a patch to another one, of several the least, or None."""
    return shortest_row(view.patches, one, other) if knows_it(view, one, other) else None
