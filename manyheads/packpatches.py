"""Reading the patches of a pack, row by row."""

from manyheads.errors import BadPack, BadRow
from manyheads.lineage import bits_of, has_place, known_bits
from manyheads.pack import sum_of
from manyheads.patch import MOST_DEEDS, MOST_SIGNS, MOST_TEXTS, can_do, lines_named, patch_of_parts
from manyheads.patchread import LINES_OF, lines_told, read_known, read_name, words_at
from manyheads.words import count_of


class PackRows:
    """The rows of a pack, how many of them were read, and the patches that were read, in their order.

    The patches have places as in a store, and what each knows altogether of those that stand in the pack is told by
    their bits. In a thin pack it may know others, too.
    """

    def __init__(self, text, word):
        if not isinstance(text, str):
            raise BadPack(1)
        self.rows = text.split("\n")
        if self.rows[0] != word:
            raise BadPack(1)
        self.many_read = 1
        self.is_thin = word == "thin"
        self.patches = {}
        # Of the patch that is being read what it knows altogether, and whether that is more than stands in the pack.
        self.known = 0
        self.reaches = False
        # Those that know more than stands in the pack; and all that can't stand in it any more.
        self.reaching = {}
        self.elsewhere = {}
        # Unlike texts as they came, and their numbers.
        self.texts = []
        self.numbers = {}
        # The lines that words told so far.
        self.lines_by_word = {}

    def row_word(self):
        """The first word of the next row, or None behind the last one."""
        if self.many_read == len(self.rows):
            return None
        return self.rows[self.many_read].partition(" ")[0]

    def refuse(self):
        """Refuse the next row."""
        raise BadPack(self.many_read + 1)

    def words(self):
        """The words of the next row."""
        try:
            return words_at(self.rows, self.many_read)
        except BadRow as bad:
            raise BadPack(bad.row) from None


def read_all_patches(pack):
    """Read all patches of a pack."""
    try:
        while pack.row_word() == "patch":
            _read_patch(pack)
    except BadRow as bad:
        raise BadPack(bad.row) from None


def read_sum(pack):
    """Read the last row of a pack."""
    if pack.row_word() is None or pack.rows[pack.many_read] != f"sum {sum_of(pack.rows[:pack.many_read])}":
        pack.refuse()
    pack.many_read += 1
    if pack.row_word() is not None:
        pack.refuse()


def _read_patch(pack):
    """Read one patch."""
    name = read_name(pack.rows, pack.many_read)
    if name in pack.patches or name in pack.elsewhere:
        pack.refuse()
    pack.many_read += 1
    knows = read_known(pack.rows, pack.many_read, name)
    _take_known(pack, name, knows)
    pack.many_read += 1
    patch = patch_of_parts(name, knows, _read_deeds(pack, name))
    if pack.reaches:
        pack.reaching[name] = True
    patch.place = len(pack.patches)
    patch.known = pack.known
    pack.patches[name] = patch


def _take_known(pack, name, knows):
    """Take in what a patch knows directly; refused is what it can't know, and where it can't stand."""
    there = [other for other in knows if other in pack.patches]
    if len(there) == len(knows):
        last = max([pack.patches[other].place for other in there], default=-1)
        # It stands behind what it knows as soon as it can, but for lesser names.
        if any(other > name for other in list(pack.patches)[last + 1:]):
            pack.refuse()
    elif not pack.is_thin:
        pack.refuse()
    pack.known = bits_of(pack.patches, there) | known_bits(pack.patches, there)
    pack.reaches = len(there) < len(knows) or any(other in pack.reaching for other in there)
    for other in knows:
        if other not in pack.patches:
            pack.elsewhere[other] = True


def _read_deeds(pack, name):
    """Read the deeds of a patch."""
    deeds = []
    many = 0
    while pack.row_word() in LINES_OF:
        words = words_at(pack.rows, pack.many_read)
        lines = lines_told(words, pack.many_read, pack.lines_by_word)
        if len(deeds) == MOST_DEEDS or not can_do((words[0], *lines), name, many):
            pack.refuse()
        for line in lines_named((words[0], *lines)):
            if line[:2] != name and not _is_there(pack, line):
                pack.refuse()
        pack.many_read += 1
        if words[0] == "put":
            texts = _read_texts(pack)
            many += len(texts)
            deeds.append(("put", *lines, tuple(texts)))
        else:
            deeds.append((words[0], *lines))
    return deeds


def _is_there(pack, line):
    """Whether a line of another patch is there for the patch that is being read."""
    name = line[:2]
    if name in pack.patches:
        other = pack.patches[name]
        return has_place(pack.known, other.place) and line[2] <= other.many
    if pack.reaches:
        pack.elsewhere[name] = True
    return pack.reaches


def _read_texts(pack):
    """Read the texts of a put."""
    texts = []
    while pack.many_read < len(pack.rows) and pack.rows[pack.many_read][:1] in ("+", "="):
        if len(texts) == MOST_TEXTS:
            pack.refuse()
        texts.append(_text_in(pack, pack.rows[pack.many_read]))
        pack.many_read += 1
    if not texts:
        pack.refuse()
    return texts


def _text_in(pack, row):
    """The text that a row tells."""
    if row.startswith("+"):
        text = row[1:]
        if len(text) > MOST_SIGNS or text in pack.numbers:
            pack.refuse()
        pack.numbers[text] = len(pack.texts)
        pack.texts.append(text)
        return text
    number = count_of(row[1:])
    if number is None or number >= len(pack.texts):
        pack.refuse()
    return pack.texts[number]
