"""What is refused, each refusal a class of its own."""


class HeadsError(ValueError):
    """Any refusal."""


class BadRow(HeadsError):
    """A row of a patch's text, and in it a word, that can't stand."""

    def __init__(self, row, word):
        HeadsError.__init__(self, f"row {row}, word {word}")
        self.row = row
        self.word = word


class BadPatch(HeadsError):
    """A deed that can't be; 0 for all of a patch that is no deed."""

    def __init__(self, deed):
        HeadsError.__init__(self, f"deed {deed}")
        self.deed = deed


class NotClosed(HeadsError):
    """Names that lack in a set that should be closed."""

    def __init__(self, lacking):
        HeadsError.__init__(self, "patches that are known lack")
        self.lacking = list(lacking)


class Unlike(HeadsError):
    """A name that another patch has."""

    def __init__(self, name):
        HeadsError.__init__(self, "another patch has this name")
        self.name = name


class Hindered(HeadsError):
    """Names of those that know a patch that should go."""

    def __init__(self, knowing):
        HeadsError.__init__(self, "others know this patch")
        self.knowing = list(knowing)


class BadPaper(HeadsError):
    """A step at which a paper is none."""

    def __init__(self, step):
        HeadsError.__init__(self, f"step {step}")
        self.step = step


class BadPack(HeadsError):
    """A row at which a pack is none."""

    def __init__(self, row):
        HeadsError.__init__(self, f"row {row}")
        self.row = row


class BadHunt(HeadsError):
    """A hunt that can't be."""


class BadMessage(HeadsError):
    """A message that is none."""


class OutOfPlace(HeadsError):
    """A thing that isn't there, or can't be where it is handed in."""
