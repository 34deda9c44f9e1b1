"""The lines of a view, their marks and states."""

from manyheads.errors import OutOfPlace
from manyheads.knowing import has_place
from manyheads.words import FOOT, HEAD, is_end, is_put_line


def check_line(view, line):
    """Refuse what is neither head, foot, nor a line that a patch of the view puts."""
    if not is_end(line) and not (is_put_line(line) and line in view.texts):
        raise OutOfPlace("this is no line of the view")


def all_lines(view):
    """Head, foot and all lines that patches of the view put, rising."""
    return [HEAD, FOOT] + sorted(view.texts)


def text_of(view, line):
    """The text of a line, None of head and foot."""
    check_line(view, line)
    return view.texts.get(line)


def marks_of(view, line):
    """The marks of a line, each with its patch's name, rising."""
    check_line(view, line)
    return sorted(view.marks.get(line, []))


def last_marks(view, line):
    """Those marks of a line whose patches no other marking one knows altogether, rising."""
    marks = marks_of(view, line)
    known = 0
    for name, _ in marks:
        known = known | view.known[name]
    return [(name, mark) for name, mark in marks if not has_place(known, view.places[name])]


def state_of(view, line):
    """Whether a line stands, is gone or is torn."""
    marks = [mark for _, mark in last_marks(view, line)]
    if "cut" not in marks:
        return "stands"
    return "torn" if "keep" in marks else "gone"


def told_lines(view):
    """The lines that patches of the view put and that stand or are torn, rising."""
    return [line for line in sorted(view.texts) if state_of(view, line) != "gone"]
