"""Reading the patches of a pack, row by row."""

from manyheads.errors import BadPack, BadRow
from manyheads.knowing import has_place
from manyheads.pack import sum_of
from manyheads.patch import MOST_DEEDS, MOST_SIGNS, MOST_TEXTS, can_do, lines_named, patch_of_parts
from manyheads.patchread import LINES_OF, lines_told, read_known, read_name, words_at
from manyheads.words import count_of


class PackRows:
    """The rows of a pack, how many of them were read, and the patches that were read, in their order.

    What a patch knows altogether, as far as is told, is kept as the bits of a number: the bit of a patch is its
    place among those that stand in the pack. In a thin pack it may know others, too.
    """

    def __init__(self, text, word):
        if not isinstance(text, str):
            raise BadPack(1)
        self.rows = text.split("\n")
        if self.rows[0] != word:
            raise BadPack(1)
        self.many_read = 1
        self.is_thin = word == "thin"
        self.patches = {}
        self.row = []
        self.places = {}
        self.known = {}
        # Whether each one knows altogether what doesn't stand in the pack; and all that can't stand in it any more.
        self.reaching = {}
        self.elsewhere = {}
        # Unlike texts as they came, and their numbers.
        self.texts = []
        self.numbers = {}
        # The lines that words told so far.
        self.lines = {}

    def row_word(self):
        """The first word of the next row, or None behind the last one."""
        if self.many_read == len(self.rows):
            return None
        return self.rows[self.many_read].partition(" ")[0]

    def refuse(self):
        """Refuse the next row."""
        raise BadPack(self.many_read + 1)

    def words(self):
        """The words of the next row."""
        try:
            return words_at(self.rows, self.many_read)
        except BadRow as bad:
            raise BadPack(bad.row) from None


def read_all_patches(pack):
    """Read all patches of a pack."""
    try:
        while pack.row_word() == "patch":
            _read_patch(pack)
    except BadRow as bad:
        raise BadPack(bad.row) from None


def read_sum(pack):
    """Read the last row of a pack."""
    if pack.row_word() is None or pack.rows[pack.many_read] != f"sum {sum_of(pack.rows[:pack.many_read])}":
        pack.refuse()
    pack.many_read += 1
    if pack.row_word() is not None:
        pack.refuse()


def _read_patch(pack):
    """Read one patch."""
    name = read_name(pack.rows, pack.many_read)
    if name in pack.places or name in pack.elsewhere:
        pack.refuse()
    pack.many_read += 1
    knows = read_known(pack.rows, pack.many_read, name)
    _take_known(pack, name, knows)
    pack.many_read += 1
    deeds = _read_deeds(pack, name)
    pack.places[name] = len(pack.row)
    pack.row.append(name)
    pack.patches[name] = patch_of_parts(name, knows, deeds)


def _take_known(pack, name, knows):
    """Take in what a patch knows directly; refused is what it can't know, and where it can't stand."""
    places = [pack.places[other] for other in knows if other in pack.places]
    if len(places) == len(knows):
        # It stands behind what it knows as soon as it can, but for lesser names.
        if any(other > name for other in pack.row[max(places, default=-1) + 1:]):
            pack.refuse()
    elif not pack.is_thin:
        pack.refuse()
    known, reaches = 0, False
    for other in knows:
        if other in pack.places:
            known = known | pack.known[other] | (1 << pack.places[other])
            reaches = reaches or pack.reaching[other]
        else:
            pack.elsewhere[other] = True
            reaches = True
    pack.known[name] = known
    pack.reaching[name] = reaches


def _read_deeds(pack, name):
    """Read the deeds of a patch."""
    deeds = []
    many = 0
    while pack.row_word() in LINES_OF:
        words = words_at(pack.rows, pack.many_read)
        lines = lines_told(words, pack.many_read, pack.lines)
        if len(deeds) == MOST_DEEDS or not can_do((words[0], *lines), name, many):
            pack.refuse()
        for line in lines_named((words[0], *lines)):
            if not _is_there(pack, name, line):
                pack.refuse()
        pack.many_read += 1
        if words[0] == "put":
            texts = _read_texts(pack)
            many += len(texts)
            deeds.append(("put", *lines, tuple(texts)))
        else:
            deeds.append((words[0], *lines))
    return deeds


def _is_there(pack, name, line):
    """Whether a line that isn't head or foot is there for a patch, if it isn't its own."""
    other = line[:2]
    if other == name:
        return True
    if other in pack.places:
        return has_place(pack.known[name], pack.places[other]) and line[2] <= pack.patches[other].many
    if pack.reaching[name]:
        pack.elsewhere[other] = True
    return pack.reaching[name]


def _read_texts(pack):
    """Read the texts of a put."""
    texts = []
    while pack.many_read < len(pack.rows) and pack.rows[pack.many_read][:1] in ("+", "="):
        if len(texts) == MOST_TEXTS:
            pack.refuse()
        texts.append(_text_in(pack, pack.rows[pack.many_read]))
        pack.many_read += 1
    if not texts:
        pack.refuse()
    return texts


def _text_in(pack, row):
    """The text that a row tells."""
    if row.startswith("+"):
        text = row[1:]
        if len(text) > MOST_SIGNS or text in pack.numbers:
            pack.refuse()
        pack.numbers[text] = len(pack.texts)
        pack.texts.append(text)
        return text
    number = count_of(row[1:])
    if number is None or number >= len(pack.texts):
        pack.refuse()
    return pack.texts[number]
