"""Which lines of a view are ahead of which, and by what ways."""

from manyheads.errors import OutOfPlace
from manyheads.marks import check_line
from manyheads.reach import reach_of, steps_from, way_by


def number_in(view, line):
    """The number of a line in a view."""
    check_line(view, line)
    return reach_of(view).numbers[line]


def bound_behind(view, line):
    """The lines bound straight behind a line, rising."""
    number = number_in(view, line)
    reach = reach_of(view)
    return reach.lines_of(reach.behind[number])


def is_ahead(view, one, other):
    """Whether there is a way from a line to another one, or to itself."""
    here, there = number_in(view, one), number_in(view, other)
    return reach_of(view).leads(here, there)


def all_behind(view, line):
    """All lines that a line is ahead of, rising."""
    number = number_in(view, line)
    reach = reach_of(view)
    return reach.lines_of(sorted(steps_from(reach, number)))


def way_ahead(view, one, other):
    """The shortest way from a line to another one, of several the least, or None."""
    start, end = number_in(view, one), number_in(view, other)
    reach = reach_of(view)
    if not reach.leads(start, end):
        return None
    return reach.lines_of(way_by(steps_from(reach, start), start, end))


def no_way(view, one, other):
    """A line and all that it is ahead of, rising; None where a way leads from it to the other one."""
    if is_ahead(view, one, other):
        return None
    if one == other:
        raise OutOfPlace("no set has a line and hasn't it")
    return sorted(set([one] + all_behind(view, one)))
