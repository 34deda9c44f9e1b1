"""Names of hands, heads, patches and lines, and the words that tell them."""

HEAD = ("", 0, 0)
FOOT = ("", 0, 1)
LETTERS = "abcdefghijklmnopqrstuvwxyz"
FIGURES = "0123456789"


def is_whole(thing):
    """Whether a thing is a whole number; True and False are none."""
    return isinstance(thing, int) and not isinstance(thing, bool)


def is_among(thing, least, most):
    """Whether a thing is a whole number from least to most."""
    return is_whole(thing) and is_whole(least) and is_whole(most) and least <= thing <= most


def is_word(thing):
    """Whether a thing is a head's name."""
    if not isinstance(thing, str) or not 1 <= len(thing) <= 8:
        return False
    return all(sign in LETTERS for sign in thing)


def is_hand(thing):
    """Whether a thing calls a hand."""
    return is_word(thing) and thing not in ("head", "foot", "none")


def is_name(thing):
    """Whether a thing is a patch's name."""
    if not isinstance(thing, tuple) or len(thing) != 2:
        return False
    return is_hand(thing[0]) and is_among(thing[1], 1, 999)


def is_put_line(thing):
    """Whether a thing is the name of a line that a patch may put."""
    if not isinstance(thing, tuple) or len(thing) != 3:
        return False
    return is_name(thing[:2]) and is_whole(thing[2]) and thing[2] >= 1


def is_end(thing):
    """Whether a thing is the head line or the foot line."""
    if not isinstance(thing, tuple) or len(thing) != 3 or not isinstance(thing[0], str):
        return False
    # The numbers are looked at one by one: False and True are equal to 0 and 1.
    return thing[0] == "" and is_among(thing[1], 0, 0) and is_among(thing[2], 0, 1)


def number_of(word):
    """The number that a word tells, or None."""
    if not isinstance(word, str) or not 1 <= len(word) <= 6 or word[0] == "0":
        return None
    if not all(sign in FIGURES for sign in word):
        return None
    return int(word)


def name_of(word):
    """The patch's name that a word tells, or None."""
    if not isinstance(word, str):
        return None
    parts = word.split(".")
    if len(parts) != 2:
        return None
    name = (parts[0], number_of(parts[1]))
    return name if is_name(name) else None


def line_of(word):
    """The line's name that a word tells, or None."""
    if not isinstance(word, str):
        return None
    if word == "head":
        return HEAD
    if word == "foot":
        return FOOT
    parts = word.split(".")
    if len(parts) != 3:
        return None
    line = (parts[0], number_of(parts[1]), number_of(parts[2]))
    return line if is_put_line(line) else None


def name_text(name):
    """The word that tells a patch's name."""
    hand, number = name
    return f"{hand}.{number}"


def line_text(line):
    """The word that tells a line's name."""
    if line == HEAD:
        return "head"
    if line == FOOT:
        return "foot"
    hand, number, place = line
    return f"{hand}.{number}.{place}"


def words_of(row):
    """The words of a row, or None where its blanks stand wrong."""
    if not isinstance(row, str):
        return None
    words = row.split(" ")
    # Between two blanks, and beside a blank at an end, split leaves an empty word.
    return None if "" in words else words
