"""A shell: texts are told to a history, and answered by texts."""

from manyheads.errors import BadHunt, BadPack, BadPatch, BadRow, Hindered, NotClosed, OutOfPlace, Unlike
from manyheads.history import History
from manyheads.shelldeeds import DEEDS
from manyheads.shellquestions import QUESTIONS, names_text
from manyheads.shellwords import things_told
from manyheads.store import Store
from manyheads.words import words_of

NO_LINE = "refused line"


class Shell:
    """A history, at first of an empty store, and a hunt, at first none, to which texts are told."""

    def __init__(self):
        self.kept = History(Store())
        self.hunting = None
        self.views = {}

    def say(self, text):
        """The answer to a text."""
        if not isinstance(text, str):
            return NO_LINE
        rows = text.split("\n")
        words = words_of(rows[0])
        things = None if words is None else things_told(words, rows[1:])
        if things is None:
            return NO_LINE
        return _answer_to(self, words[0], things)

    def history(self):
        """A copy of its history."""
        return self.kept.copied()


def told_all(texts):
    """The answers of a new shell to some texts."""
    shell = Shell()
    return [shell.say(text) for text in texts]


def _answer_to(shell, word, things):
    """The answer to a text of a good form, also where it is refused."""
    try:
        if word in QUESTIONS:
            answer = QUESTIONS[word]
            return answer(shell, things)
        do = DEEDS[word]
        do(shell, things)
        return "done"
    except BadRow as bad_row:
        return f"refused badrow {bad_row.row} {bad_row.word}"
    except BadPatch as bad_patch:
        return f"refused badpatch {bad_patch.deed}"
    except NotClosed as not_closed:
        return f"refused notclosed {names_text(not_closed.lacking)}"
    except Unlike as unlike:
        return f"refused unlike {names_text([unlike.name])}"
    except Hindered as hindered:
        return f"refused hindered {names_text(hindered.knowing)}"
    except BadPack as bad_pack:
        return f"refused badpack {bad_pack.row}"
    except BadHunt:
        return "refused badhunt"
    except OutOfPlace:
        return "refused outofplace"
