"""The lines of a view, their marks and states."""

from manyheads.errors import OutOfPlace
from manyheads.lineage import has_place, known_bits
from manyheads.patch import work_of
from manyheads.words import FOOT, HEAD, is_triple


def check_line(view, line):
    """Refuse what is neither head, foot, nor a line that a patch of the view puts."""
    if not is_triple(line) or line not in view.line_rows:
        raise OutOfPlace("this is no line of the view")


def all_lines(view):
    """Head, foot and all lines that patches of the view put, rising."""
    return sorted(view.line_rows)


def put_lines(view):
    """All lines that patches of the view put, rising."""
    return sorted(view.marks)


def text_of(view, line):
    """The text of a line, None of head and foot."""
    check_line(view, line)
    return None if line == HEAD or line == FOOT else put_text(view, line)


def put_text(view, line):
    """The text of a line that a patch of the view puts."""
    return work_of(view.patches[line[:2]]).texts[line[2] - 1]


def marks_of(view, line):
    """The marks of a line, each with its patch's name, rising."""
    return list(_told_of(view, line)[0])


def last_marks(view, line):
    """Those marks of a line whose patches no other marking one knows altogether, rising."""
    return list(_told_of(view, line)[1])


def state_of(view, line):
    """Whether a line stands, is gone or is torn."""
    return _told_of(view, line)[2]


def told_lines(view):
    """The lines that patches of the view put and that stand or are torn, rising."""
    return [line for line in put_lines(view) if state_of(view, line) != "gone"]


def state_by(marks):
    """The state of a line that has these last marks, one at least."""
    words = [word for _, word in marks]
    if "cut" not in words:
        return "stands"
    return "torn" if "keep" in words else "gone"


def _told_of(view, line):
    """The marks of a line, its last marks and its state."""
    check_line(view, line)
    told = view.line_rows[line]
    if told is None:
        marks = tuple(sorted(view.marks[line]))
        known = known_bits(view.patches, [name for name, _ in marks])
        last = tuple([mark for mark in marks if not has_place(known, view.patches[mark[0]].place)])
        told = (marks, last, state_by(last))
        view.line_rows[line] = told
    return told
