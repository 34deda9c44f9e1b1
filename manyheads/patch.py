"""Patches: what they tell, put, bind and mark."""

from manyheads.errors import BadPatch
from manyheads.words import FOOT, HEAD, is_end, is_name, is_put_line

MOST_DEEDS = 400
MOST_TEXTS = 200
MOST_SIGNS = 40


class Work:
    """What a patch puts, marks and binds, found once for all views of it.

    The lines that it puts, and their texts; the lines that it marks, each with its name and the mark; all pairs of
    lines that it binds, and each pair with the binding that binds it.
    """

    def __init__(self, patch):
        lines = lines_put(patch)
        self.lines = tuple([line for line, _ in lines])
        self.texts = tuple([text for _, text in lines])
        self.marks = tuple([(line, (patch.name, mark)) for line, mark in marks_in(patch)])
        found = []
        for deed, pairs in enumerate(bindings_of(patch), start=1):
            found.extend([(pair, (patch.name, deed, place)) for place, pair in enumerate(pairs, start=1)])
        self.bindings = tuple(found)
        self.pairs = tuple([pair for pair, _ in found])


class Patch:
    """A patch. What it tells is never changed, so it is kept in tuples.

    The place, what is known altogether, and the work are told of patches in a store alone: of others they are none.
    """

    def __init__(self, name, knows, deeds):
        if not is_name(name) or not can_know(name, knows):
            raise BadPatch(0)
        if not isinstance(deeds, list) or len(deeds) > MOST_DEEDS:
            raise BadPatch(0)
        good = _many_deeds(deeds)
        self.many = _many_put(name, deeds[:good])
        if good < len(deeds):
            raise BadPatch(good + 1)
        self.name = name
        self.knows = tuple(knows)
        self.deeds = tuple(deeds)
        self.place = None
        self.known = None
        self.work = None

    def told(self):
        """Its name, what it knows directly, and its deeds."""
        return (self.name, list(self.knows), list(self.deeds))


def patch_again(patch):
    """Another Patch that tells the same."""
    return _patch_with(patch.name, patch.knows, patch.deeds, patch.many)


def patch_of_parts(name, knows, deeds):
    """A Patch of parts that are good each by itself, as reading sees to it; so they aren't looked at again."""
    return _patch_with(name, tuple(knows), tuple(deeds), _many_put(name, deeds))


def _patch_with(name, knows, deeds, many):
    """A Patch of good parts that nobody else can change."""
    patch = Patch(name, [], [])
    patch.knows = knows
    patch.deeds = deeds
    patch.many = many
    return patch


def patch_at(patch, place, known):
    """Another Patch that tells the same, and has this place in a store and knows these altogether."""
    other = patch_again(patch)
    other.place = place
    other.known = known
    return other


def work_of(patch):
    """The work of a patch that nobody else can change; it is kept there."""
    if patch.work is None:
        patch.work = Work(patch)
    return patch.work


def can_know(own, knows):
    """Whether a patch of this name can know these directly."""
    if not isinstance(knows, list):
        return False
    before = None
    for name in knows:
        if not is_name(name) or name == own or (before is not None and name <= before):
            return False
        before = name
    return True


def _many_deeds(things):
    """How many things there are ahead of the first that is no deed by itself."""
    for at, thing in enumerate(things):
        if not _is_deed(thing):
            return at
    return len(things)


def _is_deed(thing):
    """Whether a thing is a deed, as far as each part of it tells by itself."""
    if not isinstance(thing, tuple) or len(thing) < 2 or not isinstance(thing[0], str):
        return False
    if thing[0] in ("cut", "keep"):
        return len(thing) == 2 and is_put_line(thing[1])
    if thing[0] == "order":
        return len(thing) == 3 and is_put_line(thing[1]) and is_put_line(thing[2])
    return thing[0] == "put" and len(thing) == 4 and _can_put(thing[1], thing[2], thing[3])


def _can_put(above, below, texts):
    """Whether texts can be put between two things, by what these are."""
    if not isinstance(texts, tuple) or not 1 <= len(texts) <= MOST_TEXTS:
        return False
    if not is_put_line(above) and not is_end(above) or not is_put_line(below) and not is_end(below):
        return False
    return all([is_text(text) for text in texts])


def _many_put(name, deeds):
    """How many lines a patch of this name puts; refused at the first deed that can't be behind those ahead of it."""
    many = 0
    for at, deed in enumerate(deeds, start=1):
        if not can_do(deed, name, many):
            raise BadPatch(at)
        if deed[0] == "put":
            many += len(deed[3])
    return many


def can_do(deed, own, many):
    """Whether a patch of this name that has put so many lines can do a deed, which is one by itself."""
    one = deed[1]
    if one[2] > many and one[:2] == own:
        return False
    if len(deed) == 2:
        return True
    other = deed[2]
    if other[2] > many and other[:2] == own:
        return False
    return one != other and one != FOOT and other != HEAD


def is_text(thing):
    """Whether a thing can be a line's text."""
    return isinstance(thing, str) and len(thing) <= MOST_SIGNS and "\n" not in thing


def lines_put(patch):
    """The lines that a patch puts, each with its text."""
    hand, number = patch.name
    lines = []
    for deed in patch.deeds:
        if deed[0] == "put":
            for text in deed[3]:
                lines.append(((hand, number, len(lines) + 1), text))
    return lines


def bindings_of(patch):
    """For each deed the pairs of lines that it binds, the first ahead of the second."""
    return bindings_in(patch.name, patch.deeds)


def bindings_in(name, deeds):
    """For each deed of a patch of this name the pairs of lines that it binds."""
    hand, number = name
    many = 0
    found = []
    for deed in deeds:
        if deed[0] == "put":
            new = [(hand, number, many + k) for k in range(1, len(deed[3]) + 1)]
            many += len(new)
            found.append(list(zip([deed[1], *new], [*new, deed[2]])))
        elif deed[0] == "order":
            found.append([(deed[1], deed[2])])
        else:
            found.append([])
    return found


def marks_in(patch):
    """The last mark of each line that a patch marks, by lines rising."""
    return sorted(marks_by(patch.name, patch.deeds).items())


def marks_by(name, deeds):
    """For each line that a patch of this name marks its last mark."""
    hand, number = name
    many = 0
    marks = {}
    for deed in deeds:
        if deed[0] == "put":
            for _ in deed[3]:
                many += 1
                marks[(hand, number, many)] = "keep"
        if deed[0] in ("cut", "keep"):
            marks[deed[1]] = deed[0]
    return marks


def lines_named(deed):
    """The lines but head and foot that a deed names, as it names them."""
    return [line for line in deed[1:3] if line != HEAD and line != FOOT]
