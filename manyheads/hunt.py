"""Hunts for the patch that is to blame, by questions about open sets."""

from manyheads.errors import BadHunt, OutOfPlace
from manyheads.store import has_names


def lead_of(store, pairs, names):
    """The least open set that has some names, rising."""
    menders = _menders_by(store, pairs)
    if not has_names(store.patches, names):
        raise OutOfPlace("this is no list of names of patches that are there")
    row = store.names()
    leads = _leads(store.patches, menders, _bits_by(row))
    mask = 0
    for name in names:
        mask = mask | leads[name]
    return _names_in(row, mask)


class Hunt:
    """A hunt. Sets of names are told by the bits of a number: the bit of a name is its place in the rising row of all.

    Leads are found when the hunt is made, so nothing of the store is kept.
    """

    def __init__(self, store, bad, goods, pairs):
        menders = _menders_by(store, pairs)
        if not isinstance(goods, list):
            raise BadHunt("this is no list of good sets")
        for names in [bad] + goods:
            _check_open(store.patches, menders, names)
        self.row = store.names()
        bits = _bits_by(self.row)
        leads = _leads(store.patches, menders, bits)
        good = {name: True for names in goods for name in names}
        # Names that lie in each other's lead have the same lead, so it tells their class.
        members = {}
        for name in sorted(set(bad)):
            if name not in good:
                members.setdefault(leads[name], []).append(name)
        if not members:
            raise BadHunt("this leaves no candidate")
        self.masks = list(members)
        self.members = list(members.values())
        # A class is told by the bit of its least name, as a lead that has one of its names has all; and by its lead.
        self.bits = [bits[names[0]] for names in self.members]
        self.left = list(range(len(members)))
        self.before = []

    def classes(self):
        """The classes that are left, by their least names, each a rising list."""
        return [list(self.members[at]) for at in self.left]

    def question(self):
        """The names of the next open set that is asked, rising, or None where one class is left."""
        if len(self.left) == 1:
            return None
        return led_by(self, half_of(self, self.left))

    def tell(self, is_bad):
        """Take the answer to the question."""
        if not isinstance(is_bad, bool):
            raise BadHunt("this is no truth")
        if len(self.left) == 1:
            raise BadHunt("there is no question")
        asked = half_of(self, self.left)
        self.before.append(self.left)
        self.left = asked if is_bad else [at for at in self.left if at not in asked]

    def found(self):
        """The class that is left alone, or None."""
        return list(self.members[self.left[0]]) if len(self.left) == 1 else None

    def worst(self):
        """How many questions there are yet at the worst."""
        return (len(self.left) - 1).bit_length()

    def back(self):
        """Take the last answer back."""
        if not self.before:
            raise OutOfPlace("there is no answer")
        self.left = self.before.pop()


def hunt_paper(store, bad, goods, pairs):
    """The paper of such a hunt's own questions."""
    hunt = Hunt(store, bad, goods, pairs)
    return (hunt.worst(), len(hunt.left), _tree(hunt, hunt.left))


def _tree(hunt, left):
    """The tree of the questions where these classes are left; halving them, it comes to no great depth."""
    if len(left) == 1:
        return ("found", tuple(hunt.members[left[0]]))
    asked = half_of(hunt, left)
    others = [at for at in left if at not in asked]
    return ("ask", tuple(led_by(hunt, asked)), _tree(hunt, asked), _tree(hunt, others))


def half_of(hunt, left):
    """Half of the classes that are left, rounded up: those of them that are left and lie in the next question."""
    waiting = 0
    for at in left:
        waiting = waiting | hunt.bits[at]
    taken = []
    while 2 * len(taken) < len(left):
        for at in left:
            # Of all that wait just the class itself lies in its lead.
            if hunt.masks[at] & waiting == hunt.bits[at]:
                taken.append(at)
                waiting = waiting & ~hunt.bits[at]
                break
    return sorted(taken)


def led_by(hunt, some):
    """The lead of some classes, rising."""
    lead = 0
    for at in some:
        lead = lead | hunt.masks[at]
    return _names_in(hunt.row, lead)


def _bits_by(row):
    """The bit of each name of a row."""
    return {name: 1 << place for place, name in enumerate(row)}


def _names_in(row, mask):
    """The names of a row that a number tells by its bits."""
    return [name for place, name in enumerate(row) if (mask >> place) & 1 == 1]


def _menders_by(store, pairs):
    """For each broken name its menders."""
    if not isinstance(pairs, list):
        raise BadHunt("this is no list of pairs")
    menders = {}
    for pair in pairs:
        if not isinstance(pair, tuple) or len(pair) != 2 or not has_names(store.patches, list(pair)):
            raise BadHunt("this is no pair of names of the store")
        if pair[0] == pair[1]:
            raise BadHunt("a pair has two unlike names")
        menders.setdefault(pair[0], []).append(pair[1])
    return menders


def _check_open(patches, menders, names):
    """Refuse what is no list of names of an open set."""
    if not has_names(patches, names):
        raise BadHunt("this is no list of names of the store")
    inside = set(names)
    for name in names:
        for other in [*patches[name].knows, *menders.get(name, [])]:
            if other not in inside:
                raise BadHunt("this set lacks what is known, or a mender")


def _leads(patches, menders, bits):
    """The lead of each name."""
    leads = {name: bits[name] for name in bits}
    grown = True
    while grown:
        grown = False
        # What a patch knows came ahead of it, so just menders that came later ask for another round.
        for name, patch in patches.items():
            lead = leads[name]
            for other in [*patch.knows, *menders.get(name, [])]:
                lead = lead | leads[other]
            if lead != leads[name]:
                leads[name] = lead
                grown = True
    return leads
