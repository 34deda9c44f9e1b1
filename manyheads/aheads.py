"""Which lines of a view are ahead of which, brought on as the view grows; of views of not too many lines."""

from manyheads.patch import work_of
from manyheads.words import FOOT, HEAD

# Of more lines it takes less time to go through all bindings at once.
MOST_LINES = 64


class Numbers:
    """The numbers of lines, as they came. Some lines are told by bits: the bit of a line is its number."""

    def __init__(self, table, told):
        self.table = table
        self.row = sorted(table.items())
        # The lines that some bits tell, as far as they were asked for.
        self.told_by = told

    def lines_by(self, bits):
        """The lines that some bits tell, rising."""
        if bits not in self.told_by:
            self.told_by[bits] = tuple([line for line, number in self.row if (bits >> number) & 1 == 1])
        return list(self.told_by[bits])


class Aheads:
    """For each line, by its number, the bits of those that it is ahead of.

    They are never changed, so views that were copied may have the same ones.
    """

    def __init__(self, numbers, masks):
        self.numbers = numbers
        self.masks = masks

    def mask_of(self, line):
        """The bits of the lines that a line is ahead of."""
        return self.masks[self.numbers.table[line]]

    def has_way(self, one, other):
        """Whether a line is ahead of another one, or of itself."""
        return (self.mask_of(one) >> self.numbers.table[other]) & 1 == 1

    def lines_behind(self, line):
        """The lines that a line is ahead of, rising."""
        return self.numbers.lines_by(self.mask_of(line))

    def lines_from(self, lines):
        """Some lines and all that they are ahead of, rising."""
        bits = 0
        for line in lines:
            bits = bits | (1 << self.numbers.table[line]) | self.mask_of(line)
        return self.numbers.lines_by(bits)

    def lines_around(self, line):
        """The ring of a line, rising."""
        if not self.has_way(line, line):
            return [line]
        mask = self.mask_of(line)
        # Of the lines behind it just those of its ring are ahead of the same lines.
        return [other for other in self.numbers.lines_by(mask) if self.mask_of(other) == mask]


def aheads_of(view):
    """The aheads of a view, or None where it has too many lines; they are kept there."""
    if len(view.line_rows) > MOST_LINES:
        return None
    if view.aheads is None:
        view.aheads = Aheads(Numbers({HEAD: 0, FOOT: 1}, {}), [2, 0])
    if view.coming:
        view.aheads = _grown(view.aheads, [work_of(patch) for patch in view.coming])
        view.coming = []
    return view.aheads


def _grown(aheads, works):
    """The aheads where some patches came behind all others."""
    numbers = _numbers_with(aheads, [line for work in works for line in work.lines])
    masks = aheads.masks + [0] * (len(numbers.table) - len(aheads.masks))
    for work in works:
        # From the last one on: so the lines of a put are ahead of all behind them at once.
        for one, other in reversed(work.pairs):
            masks = _bound(masks, numbers.table[one], numbers.table[other])
    return Aheads(numbers, masks)


def _numbers_with(aheads, lines):
    """Numbers where some lines came behind all others."""
    numbers = aheads.numbers
    if not lines:
        return numbers
    table = {line: number for line, number in numbers.row}
    for line in lines:
        table[line] = len(table)
    return Numbers(table, {mask: numbers.told_by[mask] for mask in aheads.masks if mask in numbers.told_by})


def _bound(masks, one, other):
    """The bits where a line is bound ahead of another one, too."""
    if (masks[one] >> other) & 1 == 1:
        return masks
    more = masks[other] | (1 << other)
    found = [mask | more if (mask >> one) & 1 == 1 else mask for mask in masks]
    found[one] = found[one] | more
    return found
