"""Exchange: what a store answers to another one, and how a store fetches what it lacks."""

from manyheads.errors import BadMessage, BadPatch, HeadsError
from manyheads.lineage import log_by, log_in, tops_in
from manyheads.patch import Patch, can_know
from manyheads.words import is_name

MOST_ASKED = 8


def reply(store, message):
    """A store's answer to a message."""
    if not isinstance(message, tuple) or not message or not isinstance(message[0], str):
        raise BadMessage("this is no message")
    if message[0] == "tops" and len(message) == 1:
        return ("tops", tuple(tops_in(store.patches, store.names())))
    if len(message) != 2 or message[0] not in ("knows", "patches") or not _can_ask(message[1]):
        raise BadMessage("this is no message")
    there = [name for name in message[1] if name in store.patches]
    if message[0] == "knows":
        return ("known", tuple([(name, store.patches[name].knows) for name in there]))
    asked = {name: store.patches[name] for name in there}
    row = [asked[name] for name in log_in(store.patches, store.patches) if name in asked]
    return ("told", tuple([(patch.name, patch.knows, patch.deeds) for patch in row]))


def _can_ask(names):
    """Whether something is a tuple of some unlike names, few enough to be asked for."""
    return isinstance(names, tuple) and 1 <= len(names) <= MOST_ASKED and _are_unlike(names)


def _are_unlike(names):
    """Whether these are unlike names of patches."""
    return all(is_name(name) for name in names) and len(set(names)) == len(names)


class Fetch:
    """A store that fetches what another one has.

    Of each name that it has heard of, and lacks, is kept what that knows directly, or None until it has heard that.
    """

    def __init__(self, store):
        self.store = store.copied()
        self.was_told = False
        self.heard = {}
        self.asked = {}

    def asks(self):
        """The next message, or None at the end."""
        if not self.was_told:
            return ("tops",)
        unheard = sorted([name for name, knows in self.heard.items() if knows is None])
        if unheard:
            return ("knows", tuple(unheard[:MOST_ASKED]))
        row = log_by(self.heard)[:MOST_ASKED]
        for name in row:
            self.asked[name] = True
        return ("patches", tuple(row)) if row else None

    def hears(self, answer):
        """Take of an answer what can be taken."""
        word, rows = _parts_of(answer)
        if word == "tops":
            self.was_told = True
            self._hear_of(rows)
        elif word == "known":
            for name, knows in rows:
                if name in self.heard and self.heard[name] is None:
                    self.heard[name] = knows
                    self._hear_of(knows)
        else:
            for patch in rows:
                self._take(patch)

    def asked_names(self):
        """All names that were asked for as patches, as they were first asked for."""
        return list(self.asked)

    def held(self):
        """A store alike the one that it has."""
        return self.store.copied()

    def _hear_of(self, names):
        for name in names:
            if name not in self.store.patches and name not in self.heard:
                self.heard[name] = None

    def _take(self, patch):
        """Put a patch that was asked for, lacks, knows just what was heard, and isn't refused."""
        if patch.name not in self.asked or self.heard.get(patch.name) != patch.knows:
            return
        try:
            self.store.put_patch(patch)
        except HeadsError:
            return
        del self.heard[patch.name]


def _parts_of(answer):
    """The word of an answer, and its names, rows or patches; refused is what is no answer."""
    if not isinstance(answer, tuple) or len(answer) != 2 or not isinstance(answer[0], str):
        raise BadMessage("this is no answer")
    word, rows = answer
    if word not in ("tops", "known", "told") or not isinstance(rows, tuple):
        raise BadMessage("this is no answer")
    if word == "tops" and not _are_unlike(rows):
        raise BadMessage("these are no unlike names")
    if word == "known" and not all(_is_known_row(row) for row in rows):
        raise BadMessage("these are no rows of what is known")
    return (word, [_patch_told(row) for row in rows] if word == "told" else rows)


def _is_known_row(row):
    """Whether something is a row of a name and of what it can know directly."""
    if not isinstance(row, tuple) or len(row) != 2 or not isinstance(row[1], tuple):
        return False
    return is_name(row[0]) and can_know(row[0], list(row[1]))


def _patch_told(row):
    """The patch that a row tells."""
    if not isinstance(row, tuple) or len(row) != 3 or not isinstance(row[1], tuple) or not isinstance(row[2], tuple):
        raise BadMessage("this is no row of a patch")
    name, knows, deeds = row
    try:
        return Patch(name, list(knows), list(deeds))
    except BadPatch:
        raise BadMessage("this is no row of a patch") from None
