"""Patches: what they tell, put, bind and mark."""

from manyheads.errors import BadPatch
from manyheads.words import FOOT, HEAD, is_end, is_name, is_put_line

MOST_DEEDS = 400
MOST_TEXTS = 200
MOST_SIGNS = 40


class Patch:
    """A patch. It is never changed, so all that it keeps is in tuples."""

    def __init__(self, name, knows, deeds):
        if not is_name(name) or not _can_know(name, knows):
            raise BadPatch(0)
        if not isinstance(deeds, list) or len(deeds) > MOST_DEEDS:
            raise BadPatch(0)
        many = 0
        for at, deed in enumerate(deeds, start=1):
            if not _can_do(deed, name, many):
                raise BadPatch(at)
            if deed[0] == "put":
                many += len(deed[3])
        self.name = name
        self.knows = tuple(knows)
        self.deeds = tuple(deeds)
        self.many = many

    def told(self):
        """Its name, what it knows directly, and its deeds."""
        return (self.name, list(self.knows), list(self.deeds))


def patch_again(patch):
    """Another Patch that tells the same."""
    name, knows, deeds = patch.told()
    return Patch(name, knows, deeds)


def _can_know(own, knows):
    """Whether a patch of this name can know these directly."""
    if not isinstance(knows, list):
        return False
    before = None
    for name in knows:
        if not is_name(name) or name == own or (before is not None and name <= before):
            return False
        before = name
    return True


def _can_do(deed, own, many):
    """Whether a patch that has put so many lines can do this deed next."""
    if not isinstance(deed, tuple) or len(deed) < 2 or not isinstance(deed[0], str):
        return False
    if deed[0] == "put":
        return len(deed) == 4 and _can_put(deed[1], deed[2], deed[3], own, many)
    if deed[0] == "order":
        return len(deed) == 3 and _can_order(deed[1], deed[2], own, many)
    return deed[0] in ("cut", "keep") and len(deed) == 2 and _can_name(deed[1], own, many)


def _can_put(above, below, texts, own, many):
    """Whether texts can be put between these two lines."""
    for line in (above, below):
        if not is_end(line) and not _can_name(line, own, many):
            return False
    if above == FOOT or below == HEAD or above == below:
        return False
    if not isinstance(texts, tuple) or not 1 <= len(texts) <= MOST_TEXTS:
        return False
    return all(is_text(text) for text in texts)


def _can_order(one, other, own, many):
    """Whether a line can be ordered ahead of another one."""
    return _can_name(one, own, many) and _can_name(other, own, many) and one != other


def _can_name(line, own, many):
    """Whether this is a line, not head or foot, that a patch can name."""
    return is_put_line(line) and (line[:2] != own or line[2] <= many)


def is_text(thing):
    """Whether a thing can be a line's text."""
    return isinstance(thing, str) and len(thing) <= MOST_SIGNS and "\n" not in thing


def lines_put(patch):
    """The lines that a patch puts, each with its text."""
    hand, number = patch.name
    lines = []
    for deed in patch.deeds:
        if deed[0] == "put":
            for text in deed[3]:
                lines.append(((hand, number, len(lines) + 1), text))
    return lines


def bindings_of(patch):
    """For each deed the pairs of lines that it binds, the first ahead of the second."""
    return bindings_in(patch.name, patch.deeds)


def bindings_in(name, deeds):
    """For each deed of a patch of this name the pairs of lines that it binds."""
    hand, number = name
    many = 0
    found = []
    for deed in deeds:
        row = []
        if deed[0] == "put":
            new = [(hand, number, many + k) for k in range(1, len(deed[3]) + 1)]
            many += len(new)
            row = [deed[1], *new, deed[2]]
        if deed[0] == "order":
            row = [deed[1], deed[2]]
        found.append(list(zip(row, row[1:])))
    return found


def marks_in(patch):
    """The last mark of each line that a patch marks, by lines rising."""
    return sorted(marks_by(patch.name, patch.deeds).items())


def marks_by(name, deeds):
    """For each line that a patch of this name marks its last mark."""
    hand, number = name
    many = 0
    marks = {}
    for deed in deeds:
        if deed[0] == "put":
            for _ in deed[3]:
                many += 1
                marks[(hand, number, many)] = "keep"
        if deed[0] in ("cut", "keep"):
            marks[deed[1]] = deed[0]
    return marks


def lines_named(deed):
    """The lines but head and foot that a deed names, as it names them."""
    return [line for line in deed[1:3] if is_put_line(line)]
