"""A store of patches, and its heads."""

from manyheads.errors import BadPatch, Hindered, NotClosed, OutOfPlace, Unlike
from manyheads.lineage import bits_of, closure, has_place, known_bits, lacking_in, names_by
from manyheads.patch import Patch, lines_named, patch_again, patch_at
from manyheads.words import is_pair, is_word


def has_name(table, thing):
    """Whether a thing, perhaps none that can be a key, is one of the names in a table."""
    return is_pair(thing) and thing in table


def has_names(table, things):
    """Whether something is a list of names in a table."""
    if not isinstance(things, list):
        return False
    for thing in things:
        if not is_pair(thing) or thing not in table:
            return False
    return True


class Store:
    """Patches, by names, in the order in which they came; and heads, their sets tuples of names, rising."""

    def __init__(self):
        # What a patch knows came ahead of it. Stores and views may have the same Patches, so none is ever changed.
        self.patches = {}
        self.sets = {}

    def put_patch(self, patch):
        """Take a patch in."""
        if not isinstance(patch, Patch):
            raise OutOfPlace("this is no patch")
        if patch.name in self.patches:
            if self.patches[patch.name].told() != patch.told():
                raise Unlike(patch.name)
            return
        lacking = [name for name in patch.knows if name not in self.patches]
        if lacking:
            raise NotClosed(lacking)
        known = bits_of(self.patches, patch.knows) | known_bits(self.patches, patch.knows)
        self._check_lines(patch, known)
        self.patches[patch.name] = patch_at(patch, len(self.patches), known)

    def _check_lines(self, patch, known):
        """Refuse a patch that names a line which it can't know."""
        for at, deed in enumerate(patch.deeds, start=1):
            for line in lines_named(deed):
                if line[:2] != patch.name and not self._has_line(line, known):
                    raise BadPatch(at)

    def _has_line(self, line, known):
        """Whether a line is put by one of the patches that are known."""
        if line[:2] not in self.patches:
            return False
        putting = self.patches[line[:2]]
        return has_place(known, putting.place) and line[2] <= putting.many

    def names(self):
        """The names of all patches, rising."""
        return sorted(self.patches)

    def patch_of(self, name):
        """The patch of a name."""
        self._check_name(name)
        return patch_again(self.patches[name])

    def knows_all(self, name):
        """All names that a patch knows altogether, rising."""
        self._check_name(name)
        return names_by(self.patches, self.patches[name].known)

    def closed_by(self, names):
        """The least closed set that has these names, rising."""
        self._check_names(names)
        return closure(self.patches, names)

    def heads(self):
        """All heads, rising."""
        return sorted(self.sets)

    def head_set(self, head):
        """The names of a head's set, rising."""
        self._check_head(head)
        return list(self.sets[head])

    def set_head(self, head, names):
        """Give a head just these names."""
        if not is_word(head):
            raise OutOfPlace("this is no head's name")
        self._check_names(names)
        self._check_closed(names)
        self._give(head, names)

    def drop_head(self, head):
        """Take a head away."""
        self._check_head(head)
        del self.sets[head]

    def merge_heads(self, head, other):
        """Give a head its own set and another head's."""
        self._check_head(head)
        self._check_head(other)
        self._give(head, self.sets[head] + self.sets[other])

    def pick(self, head, name):
        """Give a head a patch more, and all that it knows altogether."""
        self._check_head(head)
        self._check_name(name)
        self._give(head, list(self.sets[head]) + closure(self.patches, [name]))

    def take_out(self, head, name):
        """Take a patch out of a head's set."""
        knowing = self._knowing(head, name)
        if knowing:
            raise Hindered(knowing)
        self._give(head, [other for other in self.sets[head] if other != name])

    def take_with(self, head, name):
        """Take a patch out of a head's set, with all those of it that know it altogether."""
        gone = set(self._knowing(head, name))
        self._give(head, [other for other in self.sets[head] if other != name and other not in gone])

    def sweep(self, more):
        """Take out all patches that no head's set and none of some more closed sets has; their names, rising."""
        if not isinstance(more, list) or not all(has_names(self.patches, names) for names in more):
            raise OutOfPlace("this is no list of lists of names that are there")
        for names in more:
            self._check_closed(names)
        stay = {}
        for names in list(self.sets.values()) + more:
            for name in names:
                stay[name] = True
        gone = [name for name in sorted(self.patches) if name not in stay]
        if gone:
            self._keep_just(stay)
        return gone

    def copied(self):
        """Another store alike."""
        other = Store()
        for name in self.patches:
            other.patches[name] = self.patches[name]
        for head in self.sets:
            other.sets[head] = self.sets[head]
        return other

    def _check_name(self, name):
        if not has_name(self.patches, name):
            raise OutOfPlace("this is no name of a patch that is there")

    def _check_names(self, names):
        if not has_names(self.patches, names):
            raise OutOfPlace("this is no list of names of patches that are there")

    def _check_head(self, head):
        if not is_word(head) or head not in self.sets:
            raise OutOfPlace("this is no head that is there")

    def _check_closed(self, names):
        lacking = lacking_in(self.patches, names)
        if lacking:
            raise NotClosed(lacking)

    def _give(self, head, names):
        self.sets[head] = tuple(sorted(set(names)))

    def _keep_just(self, stay):
        """Take out all patches but these, which are a closed set; places are given anew."""
        left = [patch for name, patch in self.patches.items() if name in stay]
        self.patches = {}
        for patch in left:
            known = bits_of(self.patches, patch.knows) | known_bits(self.patches, patch.knows)
            self.patches[patch.name] = patch_at(patch, len(self.patches), known)

    def _knowing(self, head, name):
        """Those of a head's set that know one of it altogether, rising."""
        self._check_head(head)
        if not is_pair(name) or name not in self.sets[head]:
            raise OutOfPlace("the head hasn't this patch")
        place = self.patches[name].place
        return [other for other in self.sets[head] if has_place(self.patches[other].known, place)]


def put_together(store, patches):
    """Put patches one by one, or none where one is refused; the names that are new to the store, as they came."""
    other = store.copied()
    for patch in patches:
        other.put_patch(patch)
    new = [name for name in other.patches if name not in store.patches]
    store.patches = other.patches
    return new
