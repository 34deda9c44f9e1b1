"""Names of hands, heads, patches and lines, and the words that tell them."""

HEAD = ("", 0, 0)
FOOT = ("", 0, 1)
MOST_LETTERS = 8
MOST_NUMBER = 999
MOST_FIGURES = 6
# How many figures of a long number are read at once.
PART = 1000


def is_whole(thing):
    """Whether a thing is a whole number; True and False are none."""
    return isinstance(thing, int) and not isinstance(thing, bool)


def is_among(thing, least, most):
    """Whether a thing is a whole number from least to most."""
    return is_whole(thing) and is_whole(least) and is_whole(most) and least <= thing <= most


def is_word(thing):
    """Whether a thing is a head's name."""
    if not isinstance(thing, str) or len(thing) > MOST_LETTERS:
        return False
    # Of ASCII just the letters from a to z are letters and small; an empty text is neither.
    return thing.isascii() and thing.isalpha() and thing.islower()


def is_hand(thing):
    """Whether a thing calls a hand."""
    return is_word(thing) and thing not in ("head", "foot", "none")


# Names are looked at so often that they are taken apart just once, and True is told from 1 without a call.

def is_pair(thing):
    """Whether a thing is a text and a whole number: what is so, and equal to a patch's name, is that name."""
    if not isinstance(thing, tuple) or len(thing) != 2:
        return False
    hand, number = thing
    return isinstance(number, int) and isinstance(hand, str) and number is not True and number is not False


def is_triple(thing):
    """Whether a thing is a text and two whole numbers: what is so, and equal to a line's name, is that name."""
    if not isinstance(thing, tuple) or len(thing) != 3:
        return False
    hand, number, place = thing
    if not isinstance(number, int) or not isinstance(place, int) or not isinstance(hand, str):
        return False
    return number is not True and number is not False and place is not True and place is not False


def is_name(thing):
    """Whether a thing is a patch's name."""
    if not isinstance(thing, tuple) or len(thing) != 2:
        return False
    hand, number = thing
    return isinstance(number, int) and number is not True and 1 <= number <= MOST_NUMBER and is_hand(hand)


def is_put_line(thing):
    """Whether a thing is the name of a line that a patch may put."""
    if not isinstance(thing, tuple) or len(thing) != 3:
        return False
    hand, number, place = thing
    if not isinstance(number, int) or not isinstance(place, int) or number is True or place is True:
        return False
    return 1 <= number <= MOST_NUMBER and place >= 1 and is_hand(hand)


def is_end(thing):
    """Whether a thing is the head line or the foot line."""
    return is_triple(thing) and (thing == HEAD or thing == FOOT)


def number_of(word):
    """The number that a word tells, or None."""
    if not isinstance(word, str) or len(word) > MOST_FIGURES or not word.isdigit():
        return None
    if word[0] == "0" or not word.isascii():
        return None
    return int(word)


def count_of(word):
    """The number from 0 on that a word tells by its figures, however many, or None."""
    if not isinstance(word, str) or not word.isascii() or not word.isdigit() or (word[0] == "0" and word != "0"):
        return None
    number = 0
    # Python itself reads only so many figures at once.
    for part in [word[at:at + PART] for at in range(0, len(word), PART)]:
        number = number * int("1" + "0" * len(part)) + int(part)
    return number


def name_of(word):
    """The patch's name that a word tells, or None."""
    if not isinstance(word, str):
        return None
    parts = word.split(".")
    if len(parts) != 2:
        return None
    name = (parts[0], number_of(parts[1]))
    return name if is_name(name) else None


def line_of(word):
    """The line's name that a word tells, or None."""
    if not isinstance(word, str):
        return None
    if word == "head":
        return HEAD
    if word == "foot":
        return FOOT
    parts = word.split(".")
    if len(parts) != 3:
        return None
    line = (parts[0], number_of(parts[1]), number_of(parts[2]))
    return line if is_put_line(line) else None


def name_text(name):
    """The word that tells a patch's name."""
    hand, number = name
    return f"{hand}.{number}"


def line_text(line):
    """The word that tells a line's name."""
    if line == HEAD:
        return "head"
    if line == FOOT:
        return "foot"
    hand, number, place = line
    return f"{hand}.{number}.{place}"


def words_of(row):
    """The words of a row, or None where its blanks stand wrong."""
    if not isinstance(row, str):
        return None
    words = row.split(" ")
    # Between two blanks, and beside a blank at an end, split leaves an empty word.
    return None if "" in words else words
