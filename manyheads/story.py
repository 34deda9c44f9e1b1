"""Stories: how lines came to be what they are, by whom they are told, and what changed between two heads."""

from manyheads.errors import OutOfPlace
from manyheads.knowing import View, log_in_view
from manyheads.lineage import has_place
from manyheads.marks import last_marks, marks_of, state_by
from manyheads.sheet import told_row
from manyheads.words import is_put_line


def story(view, line):
    """All marks of a line in the order of the set's log, each with its patch's name."""
    return [(name, _word_for(view, line, name, mark)) for name, mark in _marks_by_log(view, line)]


def turns(view, line):
    """The patches of the set's log with which a line comes to be something else than ahead of them, and what."""
    found = []
    # The last marks of those so far.
    last = []
    for name, mark in _marks_by_log(view, line):
        known = view.patches[name].known
        last = [other for other in last if not has_place(known, view.patches[other[0]].place)] + [(name, mark)]
        state = state_by(last)
        if not found or found[-1][1] != state:
            found.append((name, state))
    return found


def who(view):
    """For each line of the told row the patches whose last marks keep it, and those whose last marks cut it."""
    found = []
    for line in told_row(view):
        marks = last_marks(view, line)
        keeps = [name for name, mark in marks if mark == "keep"]
        found.append((line, keeps, [name for name, mark in marks if mark == "cut"]))
    return found


def changed(store, head, other):
    """The lines told by a head alone, and those told by another one alone, each in the order of its told row."""
    row = told_row(View(store, store.head_set(head)))
    other_row = told_row(View(store, store.head_set(other)))
    return (_without(row, other_row), _without(other_row, row))


def _without(lines, others):
    """Those of some lines that aren't among others."""
    there = set(others)
    return [line for line in lines if line not in there]


def _marks_by_log(view, line):
    """The marks of a line that a patch puts, in the order of the set's log."""
    if not is_put_line(line):
        raise OutOfPlace("this is no line that a patch puts")
    marks = dict(marks_of(view, line))
    return [(name, marks[name]) for name in log_in_view(view) if name in marks]


def _word_for(view, line, name, mark):
    """The word for a mark: its own, but for a keep without a deed, which is the putting."""
    return mark if (mark, line) in view.patches[name].deeds else "put"
