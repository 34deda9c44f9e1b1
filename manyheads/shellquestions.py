"""Questions that a shell answers. Each is told the shell, and the things that stood behind its word."""

from manyheads.check import check
from manyheads.errors import BadPaper
from manyheads.knowing import View
from manyheads.pack import pack_text
from manyheads.paper import paper_for
from manyheads.quarrels import quarrels
from manyheads.sets import lacking_log, log_of, tops
from manyheads.shelldeeds import hunt_of
from manyheads.sheet import sheet_texts, told_row
from manyheads.story import story
from manyheads.words import line_text, name_text

NOTHING = "none"


def names_text(names):
    """The words that tell names."""
    return " ".join([name_text(name) for name in names]) or NOTHING


def _rows_text(rows):
    """The rows of an answer."""
    return "\n".join(rows) or NOTHING


def _view_of(shell, head):
    """The view of a head's set. The last one of each head is kept; what a head of any state has is never swept."""
    store = shell.kept.store
    names = store.head_set(head)
    if head not in shell.views or shell.views[head].names() != names:
        shell.views[head] = View(store, names)
    return shell.views[head]


def _names(shell, things):
    return names_text(shell.kept.store.names())


def _log(shell, things):
    store = shell.kept.store
    return names_text(log_of(store, store.head_set(things[0])))


def _lacks(shell, things):
    return names_text(lacking_log(shell.kept.store, things[0], things[1]))


def _heads(shell, things):
    store = shell.kept.store
    return _rows_text([f"{head} {names_text(tops(store, store.head_set(head)))}" for head in store.heads()])


def _here(shell, things):
    return str(shell.kept.here())


def _way(shell, things):
    return " ".join([str(number) for number in shell.kept.way(things[0], things[1])])


def _sheet(shell, things):
    return _rows_text(["+" + text for text in sheet_texts(_view_of(shell, things[0]))])


def _lines(shell, things):
    return _rows_text([line_text(line) for line in told_row(_view_of(shell, things[0]))])


def _quarrels(shell, things):
    rows = []
    for word, lines in quarrels(_view_of(shell, things[0])):
        told = [lines] if word == "torn" else lines
        rows.append(" ".join([word, *[line_text(line) for line in told]]))
    return _rows_text(rows)


def _story(shell, things):
    view = _view_of(shell, things[0])
    return _rows_text([f"{name_text(name)} {word}" for name, word in story(view, things[1])])


def _pack(shell, things):
    return pack_text(shell.kept)


def _paper(shell, things):
    head, claim = things
    view = _view_of(shell, head)
    names = view.names()
    patches = [view.patches[name] for name in names]
    try:
        check([(patch.name, patch.knows, patch.deeds) for patch in patches], names, claim, paper_for(view, claim))
    except BadPaper:
        return "no"
    return "yes"


def _ask(shell, things):
    return names_text(hunt_of(shell).question() or [])


def _found(shell, things):
    return names_text(hunt_of(shell).found() or [])


def _worst(shell, things):
    return str(hunt_of(shell).worst())


QUESTIONS = {
    "names": _names, "log": _log, "lacks": _lacks, "heads": _heads, "here": _here, "way": _way, "sheet": _sheet,
    "lines": _lines, "quarrels": _quarrels, "story": _story, "pack": _pack, "paper": _paper, "ask": _ask,
    "found": _found, "worst": _worst,
}
