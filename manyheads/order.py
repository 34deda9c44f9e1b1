"""Which lines of a view are ahead of which, and by what ways."""

from manyheads.aheads import aheads_of
from manyheads.errors import OutOfPlace
from manyheads.marks import check_line
from manyheads.reach import reach_of, steps_from, way_by


def bound_behind(view, line):
    """The lines bound straight behind a line, rising."""
    check_line(view, line)
    reach = reach_of(view)
    return reach.lines_of(reach.behind[reach.numbers[line]])


def is_ahead(view, one, other):
    """Whether there is a way from a line to another one, or to itself."""
    check_line(view, one)
    check_line(view, other)
    return has_way(view, one, other)


def has_way(view, one, other):
    """Whether there is a way from a line that is there to another one, or to itself."""
    aheads = aheads_of(view)
    if aheads is not None:
        return aheads.has_way(one, other)
    reach = reach_of(view)
    return reach.leads(reach.numbers[one], reach.numbers[other])


def all_behind(view, line):
    """All lines that a line is ahead of, rising."""
    check_line(view, line)
    aheads = aheads_of(view)
    if aheads is not None:
        return aheads.lines_behind(line)
    reach = reach_of(view)
    return reach.lines_of(sorted(steps_from(reach, reach.numbers[line])))


def all_from(view, lines):
    """Some lines that are there and all that they are ahead of, rising."""
    aheads = aheads_of(view)
    if aheads is not None:
        return aheads.lines_from(lines)
    reach = reach_of(view)
    found = {}
    left = [reach.numbers[line] for line in lines]
    while left:
        number = left.pop()
        if number not in found:
            found[number] = True
            left.extend(reach.behind[number])
    return reach.lines_of(sorted(found))


def way_ahead(view, one, other):
    """The shortest way from a line to another one, of several the least, or None."""
    if not is_ahead(view, one, other):
        return None
    reach = reach_of(view)
    start, end = reach.numbers[one], reach.numbers[other]
    return reach.lines_of(way_by(steps_from(reach, start), start, end))


def no_way(view, one, other):
    """A line and all that it is ahead of, rising; None where a way leads from it to the other one."""
    if is_ahead(view, one, other):
        return None
    if one == other:
        raise OutOfPlace("no set has a line and hasn't it")
    return all_from(view, [one])
