"""Reading patches from text, row by row."""

from manyheads.errors import BadRow
from manyheads.patch import MOST_DEEDS, MOST_SIGNS, MOST_TEXTS, patch_of_parts
from manyheads.words import is_end, is_hand, is_name, line_of, name_of, number_of, words_of

# How many lines a deed's row names.
LINES_OF = {"put": 2, "cut": 1, "keep": 1, "order": 2}


def read_patches(text):
    """The patches that a text tells."""
    if not isinstance(text, str):
        raise BadRow(1, 0)
    rows = text.split("\n")
    told = []
    # The lines that words told so far: the same lines are named again and again.
    lines = {}
    at = 0
    while at < len(rows):
        name = read_name(rows, at)
        knows = read_known(rows, at + 1, name)
        deeds, at = _read_deeds(rows, at + 2, lines)
        told.append((name, knows, deeds))
    # Patches are made only here: any row that can't stand is ahead of any patch that can't be.
    return [patch_of_parts(name, knows, deeds) for name, knows, deeds in told]


def words_at(rows, at):
    """The words of the row at a place, from 0."""
    if at >= len(rows):
        raise BadRow(at + 1, 1)
    words = words_of(rows[at])
    if words is None:
        raise BadRow(at + 1, 0)
    return words


def read_name(rows, at):
    """The name that a patch's first row tells."""
    words = words_at(rows, at)
    if words[0] != "patch":
        raise BadRow(at + 1, 1)
    if len(words) < 2 or not is_hand(words[1]):
        raise BadRow(at + 1, 2)
    name = (words[1], number_of(words[2]) if len(words) > 2 else None)
    if not is_name(name):
        raise BadRow(at + 1, 3)
    if len(words) > 3:
        raise BadRow(at + 1, 4)
    return name


def read_known(rows, at, own):
    """The names that a patch of this name knows directly."""
    words = words_at(rows, at)
    if words[0] != "knows":
        raise BadRow(at + 1, 1)
    if len(words) < 2:
        raise BadRow(at + 1, 2)
    if words[1] == "none":
        if len(words) > 2:
            raise BadRow(at + 1, 3)
        return []
    known = []
    for place, word in enumerate(words[1:], start=2):
        name = name_of(word)
        if name is None or name == own or (known and name <= known[-1]):
            raise BadRow(at + 1, place)
        known.append(name)
    return known


def _read_deeds(rows, at, known):
    """The deeds from a place on, and the place of the next patch's row or of the end."""
    deeds = []
    while at < len(rows):
        words = words_at(rows, at)
        if words[0] not in LINES_OF:
            if words[0] == "patch":
                break
            raise BadRow(at + 1, 1)
        if len(deeds) == MOST_DEEDS:
            raise BadRow(at + 1, 0)
        lines = lines_told(words, at, known)
        at += 1
        if words[0] == "put":
            texts = _read_texts(rows, at)
            at += len(texts)
            deeds.append(("put", *lines, tuple(texts)))
        else:
            deeds.append((words[0], *lines))
    return deeds, at


def lines_told(words, at, known):
    """The lines that a deed's row names; what its words tell is known then."""
    many = LINES_OF[words[0]]
    lines = []
    for place, word in enumerate(words[1:many + 1], start=1):
        if word not in known:
            known[word] = line_of(word)
        line = known[word]
        if line is None or (is_end(line) and words[0] != "put"):
            raise BadRow(at + 1, place + 1)
        lines.append(line)
    if len(words) != many + 1:
        raise BadRow(at + 1, min(len(words), many + 1) + 1)
    return lines


def _read_texts(rows, at):
    """The texts of a put whose first text's row is at this place."""
    texts = []
    while at < len(rows) and rows[at].startswith("+"):
        text = rows[at][1:]
        if len(texts) == MOST_TEXTS or len(text) > MOST_SIGNS:
            raise BadRow(at + 1, 0)
        texts.append(text)
        at += 1
    if not texts:
        # A row that lacks, or is none, is told ahead of one of another sort.
        words_at(rows, at)
        raise BadRow(at + 1, 1)
    return texts
