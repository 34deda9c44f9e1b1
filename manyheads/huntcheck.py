"""The checker of a hunt's papers. It takes nothing from the hunt, and nothing for so but what the paper shows."""

from manyheads.errors import BadPaper


def check_hunt(patches, bad, goods, pairs, paper):
    """Let a paper of a hunt by, or refuse it at its first wrong step."""
    if not _has_form(paper):
        raise BadPaper(0)
    most, count, tree = paper
    straight = _straight(patches, pairs)
    good = {name: True for names in goods for name in names}
    # The parts of the tree that are still to be looked at, the next one last, each with the candidates that are
    # left there and with how many asks stand above it.
    waiting = [(tree, sorted({name for name in bad if name not in good}), 0)]
    step, many_found = 0, 0
    while waiting:
        part, left, above = waiting.pop()
        step += 1
        if _is_found(straight, left, part):
            many_found += 1
        elif above < most and _is_ask(straight, left, part):
            asked = {name: True for name in part[1]}
            waiting.append((part[3], [name for name in left if name not in asked], above + 1))
            waiting.append((part[2], [name for name in left if name in asked], above + 1))
        else:
            raise BadPaper(step)
    if many_found != count:
        raise BadPaper(step + 1)


def _has_form(paper):
    """Whether a paper is of a triple's form, and its first number is so for its second."""
    if not isinstance(paper, tuple) or len(paper) != 3:
        return False
    most, count, _ = paper
    if not _is_whole(most) or not _is_whole(count) or most < 0 or count < 1:
        return False
    return most == (count - 1).bit_length()


def _is_whole(thing):
    """Whether a thing is a whole number; True and False are none."""
    return isinstance(thing, int) and not isinstance(thing, bool)


def _straight(patches, pairs):
    """For each name what must be in an open set that has it: what it knows directly, and its menders."""
    straight = {name: list(knows) for name, knows, _ in patches}
    for broken, mender in pairs:
        straight[broken].append(mender)
    return straight


def _is_found(straight, left, part):
    """Whether a part of a tree tells all candidates that are left, and they are of one class."""
    if not isinstance(part, tuple) or len(part) != 2 or not _is_text(part[0], "found"):
        return False
    if not _are_rising(straight, part[1]) or list(part[1]) != left:
        return False
    return all([_have_all(_lead(straight, name), left) for name in left])


def _is_ask(straight, left, part):
    """Whether a part of a tree asks an open set that has some of the candidates that are left, and not all."""
    if not isinstance(part, tuple) or len(part) != 4 or not _is_text(part[0], "ask"):
        return False
    if not _are_rising(straight, part[1]):
        return False
    inside = {name: True for name in part[1]}
    if not all([_have_all(inside, straight[name]) for name in part[1]]):
        return False
    return any(name in inside for name in left) and not _have_all(inside, left)


def _is_text(thing, text):
    """Whether a thing is just this text."""
    return isinstance(thing, str) and thing == text


def _are_rising(straight, things):
    """Whether something is a rising tuple of names of the patches."""
    if not isinstance(things, tuple) or not all(_is_name_in(straight, thing) for thing in things):
        return False
    return all(one < other for one, other in zip(things, things[1:]))


def _is_name_in(straight, thing):
    """Whether a thing, perhaps none that can be a key, is the name of one of the patches."""
    if not isinstance(thing, tuple) or len(thing) != 2 or not isinstance(thing[0], str):
        return False
    return _is_whole(thing[1]) and thing in straight


def _lead(straight, name):
    """The least open set that has a name, as the keys of a dict."""
    found = {}
    left = [name]
    while left:
        one = left.pop()
        if one not in found:
            found[one] = True
            left.extend(straight[one])
    return found


def _have_all(inside, names):
    """Whether all of some names are inside."""
    return all(name in inside for name in names)
