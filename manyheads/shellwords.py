"""What can be told to a shell: first words, and the things that other words and rows tell."""

from manyheads.words import count_of, is_word, line_of, name_of

MOST_FIGURES = 6
# What stands behind each first word. Heads and hands are told by words alike.
FORMS = {
    "take": ("rows",), "set": ("word", "names"), "drop": ("word",), "merge": ("word", "word"), "pick": ("word", "name"),
    "out": ("word", "name"), "with": ("word", "name"), "undo": (), "redo": (), "go": ("number",), "sweep": (),
    "unpack": ("rows",), "record": ("word", "word", "texts"), "names": (), "log": ("word",), "lacks": ("word", "word"),
    "heads": (), "here": (), "way": ("number", "number"), "sheet": ("word",), "lines": ("word",), "quarrels": ("word",),
    "story": ("word", "line"), "pack": (), "paper": ("word", "claim"), "hunt": ("word", "words"), "ask": (), "bad": (),
    "good": (), "back": (), "found": (), "worst": (),
}
CLAIMS = {
    "stands": ("line",), "gone": ("line",), "torn": ("line",), "ahead": ("line", "line"), "loose": ("line", "line"),
    "knows": ("name", "name"),
}


def things_told(words, rows):
    """The things that stand behind a first word, or None where these aren't such as it asks for."""
    if words[0] not in FORMS:
        return None
    things = []
    left = words[1:]
    for kind in FORMS[words[0]]:
        if kind in ("rows", "texts"):
            thing, rows = _rows_told(kind, rows), []
        elif kind in ("names", "words", "claim"):
            thing, left = _all_told(kind, left), []
        else:
            thing, left = _thing_told(kind, left[:1]), left[1:]
        if thing is None:
            return None
        things.append(thing)
    return None if left or rows else things


def _rows_told(kind, rows):
    """The rows behind the first one, or the texts that they tell."""
    if kind == "rows":
        return rows
    return [row[1:] for row in rows] if all(row.startswith("+") for row in rows) else None


def _all_told(kind, words):
    """What all words that are left tell together."""
    if kind == "claim":
        return _claim_told(words)
    if kind == "words":
        return words if all(is_word(word) for word in words) else None
    if words == ["none"]:
        return []
    names = [name_of(word) for word in words]
    return None if not names or None in names else names


def _claim_told(words):
    """The claim that some words tell."""
    if not words or words[0] not in CLAIMS or len(words) != len(CLAIMS[words[0]]) + 1:
        return None
    parts = [_thing_told(kind, [word]) for kind, word in zip(CLAIMS[words[0]], words[1:])]
    return None if None in parts else (words[0], *parts)


def _thing_told(kind, words):
    """What one word tells, if there is one."""
    if not words:
        return None
    word = words[0]
    if kind == "word":
        return word if is_word(word) else None
    if kind == "name":
        return name_of(word)
    if kind == "line":
        return line_of(word)
    return count_of(word) if len(word) <= MOST_FIGURES else None
