"""[5], [6]: reading the text of patches."""

import re
import time

from manyheads.errors import BadPatch, BadRow
from manyheads.patch import Patch
from manyheads.patchread import read_patches
from manyheads.patchtext import patches_text
from helpers import ANYTHING, Case, FOOT, HEAD

TEXT = """patch ann 1
knows none
put head foot
+one
+
+  two  words
put ann.1.1 ann.1.3
+patch bob 1
patch bob 12
knows ann.1 bob.2
cut ann.1.2
keep ann.1.1
order bob.2.1 ann.1.3
put bob.2.1 foot
++
patch cid 999
knows none
patch cid 7
knows cid.999
order ann.1.1 ann.1.2"""

WORDS = ["", " ", "patch", "knows", "none", "put", "cut", "keep", "order", "head", "foot", "ann", "ann.1", "bob.12",
         "zed.9", "ann.1.1", "ann.1.0", "1", "0", "01", "999", "1000", "1000000", "+", "+x", "x", "cid.7", "cid.999", "Ann"]

NAME = "(?!(?:head|foot|none)[.])[a-z]{1,8}[.][1-9][0-9]{0,2}"
LINE = NAME + "[.][1-9][0-9]{0,5}"
LINES = {"put": (f"head|foot|{LINE}",) * 2, "cut": (LINE,), "keep": (LINE,), "order": (LINE,) * 2}


def first_wrong(words, patterns):
    """The number, from 1, of the first word that isn't as its pattern tells, or 0."""
    for at, pattern in enumerate(patterns):
        if at == len(words) or not re.fullmatch(pattern, words[at]):
            return at + 1
    return len(patterns) + 1 if len(words) > len(patterns) else 0


def wrong_known(words, own):
    if words[:2] == ["knows", "none"]:
        return first_wrong(words, ["knows", "none"])
    wrong = first_wrong(words, ["knows"] + [NAME] * max(1, len(words) - 1))
    before = ("", 0)
    for at, word in enumerate(words[1:wrong - 1 if wrong else None], start=2):
        hand, number = word.split(".")
        if (hand, int(number)) == own or (hand, int(number)) <= before:
            return at
        before = (hand, int(number))
    return wrong


def wrong_row(text):
    """What a text is refused with, (row, word), or None: told by another way than the program's."""
    rows = text.split("\n") + [None]
    due, texts, deeds, own = "patch", 0, 0, None
    for at, row in enumerate(rows, start=1):
        if due == "text" and row is not None and row[:1] == "+":
            texts += 1
            if texts > 200 or len(row) > 41:
                return at, 0
            continue
        if row is None:
            return None if due == "deed" or due == "text" and texts else (at, 1)
        words = row.split(" ")
        if "" in words:
            return at, 0
        if due == "text" and not texts:
            return at, 1
        wrong = 1
        if due == "knows":
            wrong, due, deeds = wrong_known(words, own), "deed", 0
        elif due != "patch" and words[0] in LINES:
            deeds += 1
            wrong = first_wrong(words, (words[0],) + LINES[words[0]])
            if deeds > 400:
                return at, 0
            due, texts = "text" if words[0] == "put" else "deed", 0
        elif words[0] == "patch":
            wrong = first_wrong(words, ("patch", "(?!(head|foot|none)$)[a-z]{1,8}", "[1-9][0-9]{0,2}"))
            due = "knows"
            if not wrong:
                own = (words[1], int(words[2]))
        if wrong:
            return at, wrong
    return None


class Reading(Case):

    def bad_row(self, text, row, word):
        self.refused(BadRow, {"row": row, "word": word}, read_patches, text)

    def test_good_text(self):
        read = read_patches(TEXT)
        self.assertEqual([patch.told() for patch in read], [
            (("ann", 1), [], [("put", HEAD, FOOT, ("one", "", "  two  words")),
                              ("put", ("ann", 1, 1), ("ann", 1, 3), ("patch bob 1",))]),
            (("bob", 12), [("ann", 1), ("bob", 2)], [
                ("cut", ("ann", 1, 2)), ("keep", ("ann", 1, 1)), ("order", ("bob", 2, 1), ("ann", 1, 3)),
                ("put", ("bob", 2, 1), FOOT, ("+",))]),
            (("cid", 999), [], []),
            (("cid", 7), [("cid", 999)], [("order", ("ann", 1, 1), ("ann", 1, 2))]),
        ])
        self.assertTrue(all(isinstance(patch, Patch) for patch in read))
        self.assertEqual(patches_text(read), TEXT)

    def test_what_is_written_is_read(self):
        texts = ("", " ", "+", "patch a 1", "a" * 40, " " * 40, "  x  ", "\\n")
        patches = [
            Patch(("a", 1), [], []),
            Patch(("a", 1), [], [("put", HEAD, FOOT, texts)]),
            Patch(("abcdefgh", 999), [("a", 1), ("a", 999)], [
                ("put", ("a", 999, 999999), ("a", 1, 1), ("x",) * 200), ("cut", ("abcdefgh", 999, 200))] * 200),
        ]
        for some in (patches, patches[::-1], patches[:1], patches * 2):
            self.assertEqual([patch.told() for patch in read_patches(patches_text(some))],
                             [patch.told() for patch in some])

    def test_no_text(self):
        self.bad_row("", 1, 0)
        for thing in ANYTHING:
            if not isinstance(thing, str):
                self.bad_row(thing, 1, 0)
        self.bad_row(["patch a 1", "knows none"], 1, 0)
        self.bad_row(b"patch a 1\nknows none", 1, 0)

    def test_first_row(self):
        for text, row, word in (
                ("\n", 1, 0), (" ", 1, 0), ("patch", 1, 2), ("patch ann", 1, 3), ("patch ann 1 1", 1, 4),
                ("patch  ann 1", 1, 0), (" patch ann 1", 1, 0), ("patch ann 1 ", 1, 0), ("patches ann 1", 1, 1),
                ("Patch ann 1", 1, 1), ("knows none", 1, 1), ("+x", 1, 1), ("+", 1, 1),
                ("+ x", 1, 1), ("+x ", 1, 0), ("+a  b", 1, 0), ("patch head 1", 1, 2), ("patch none x y", 1, 2),
                ("patch foot 1", 1, 2), ("patch Ann 1", 1, 2), ("patch ninesigns 1", 1, 2), ("patch ann 0", 1, 3),
                ("patch ann 01", 1, 3), ("patch ann 1000", 1, 3), ("patch ann 1000000", 1, 3), ("patch ann x", 1, 3),
                ("patch ann.1", 1, 2), ("patch ann 1", 2, 1), ("patch ann 999", 2, 1), ("patch ann 1\n", 2, 0)):
            self.bad_row(text, row, word)
            if not text.startswith("\n"):
                self.bad_row("patch cid 1\nknows none\n" + text, row + 2, word)

        for row in ("cut ann.1.1", "put head foot", "keep ann.1.1", "order ann.1.1 ann.1.2", "cut", "none"):
            self.bad_row(row, 1, 1)

    def test_known(self):
        for row, word in (
                ("knows", 2), ("know none", 1), ("knows none none", 3), ("knows none bob.1", 3),
                ("knows bob.1 none", 3), ("knows  none", 0), ("knows none ", 0), (" knows none", 0), ("knows ", 0),
                ("", 0), ("knows bob", 2), ("knows ann.1", 2), ("knows abe.1 ann.1", 3),
                ("knows abe.1 bob.2 bob.2", 4), ("knows bob.2 bob.1 x", 3), ("knows bob.10 bob.9", 3), ("knows bob.1 abe.1", 3), ("knows bob.0", 2), ("knows bob.01", 2),
                ("knows bob.1000", 2), ("knows bob.1.1", 2), ("knows head.1", 2), ("knows head", 2), ("knows Bob.1", 2),
                ("knows bob.1 bob.2 x", 4), ("cut bob.1.1", 1), ("patch bob 1", 1), ("+x", 1), ("none", 1)):
            self.bad_row("patch ann 1\n" + row, 2, word)
            self.bad_row("patch ann 1\n" + row + "\n+", 2, word)
        self.assertEqual(read_patches("patch ann 2\nknows abe.99 ann.1 ann.3 ann.10")[0].told()[1],
                         [("abe", 99), ("ann", 1), ("ann", 3), ("ann", 10)])

    def test_deeds(self):
        for row, word in (
                ("put", 2), ("put head", 3), ("put head foot head", 4), ("put none foot", 2), ("put head none", 3),
                ("put ann foot", 2), ("put ann.1 foot", 2), ("put ann.1.0 foot", 2), ("put head ann.1.01", 3),
                ("put ann.1.1000000 foot", 2), ("put ann.1000.1 foot", 2), ("put head  foot", 0), ("put head foot ", 0),
                ("cut", 2), ("cut head", 2), ("cut foot", 2), ("cut head foot", 2), ("cut bob.1.1 bob.1.1", 3),
                ("cut bob.1", 2), ("cut  bob.1.1", 0), ("keep", 2), ("keep head", 2), ("keep foot", 2),
                ("keep bob.1.1 x", 3), ("order", 2), ("order bob.1.1", 3), ("order head bob.1.1", 2),
                ("order bob.1.1 foot", 3), ("order foot head", 2), ("order bob.1.1 bob.1.2 bob.1.3", 4),
                ("order x y z", 2), ("cuts bob.1.1", 1), ("knows none", 1), ("none", 1), ("", 0), (" ", 0), ("+x", 1),
                ("+x y", 1), ("+x  y", 0), ("+ ", 0), ("+", 1), ("x", 1), ("head", 1)):
            self.bad_row("patch ann 1\nknows none\n" + row, 3, word)
            self.bad_row("patch ann 1\nknows none\ncut bob.1.1\n" + row + "\n\n", 4, word)

    def test_texts(self):
        start = "patch ann 1\nknows none\nput head foot\n"
        for rows, row, word in (
                ("", 4, 0), ("cut bob.1.1", 4, 1), ("patch bob 1", 4, 1), ("x", 4, 1), (" +x", 4, 0), ("x  y", 4, 0),
                ("cut ", 4, 0), ("+" + "a" * 41, 4, 0), ("+" + " " * 41, 4, 0), ("+a\n+" + "a" * 41, 5, 0),
                ("+\n" * 200 + "+", 204, 0), ("+\n" * 200 + "+a  b\nx", 204, 0), ("+x\n", 5, 0), ("+x\n\n", 5, 0),
                ("+x\nx", 5, 1), ("+x\n +x", 5, 0), ("+x\ncut bob.1.1\n+x", 6, 1), ("+x\nput head foot", 6, 1)):
            self.bad_row(start + rows, row, word)
        self.bad_row("patch ann 1\nknows none\nput head foot", 4, 1)
        for rows, texts in (("+", [""]), ("+" + "a" * 40, ["a" * 40]), ("+ \n++", [" ", "+"]),
                            ("\n".join(["+x"] * 200), ["x"] * 200)):
            self.assertEqual(read_patches(start + rows)[0].told()[2], [("put", HEAD, FOOT, tuple(texts))])

    def test_many_deeds(self):
        start = "patch ann 1\nknows none\n"
        full = start + "\n".join(["cut bob.1.1"] * 400)
        self.assertEqual(len(read_patches(full)[0].told()[2]), 400)
        self.assertEqual(len(read_patches(full + "\npatch bob 1\nknows none\ncut bob.2.1")), 2)
        for row, word in (("cut bob.1.1", 0), ("put head foot", 0), ("keep", 0), ("order x", 0), ("x", 1), ("+x", 1),
                          ("", 0), ("patch", 2)):
            self.bad_row(full + "\n" + row, 403, word)
        puts = start + "\n".join(["put head foot\n+x"] * 400)
        self.assertEqual(len(read_patches(puts + "\n+y")[0].told()[2]), 400)
        self.bad_row(puts + "\nput head foot", 803, 0)
        self.bad_row(puts + "\n+" + "y" * 41, 803, 0)

    def test_patches_that_cannot_be(self):
        def bad_patch(rows, deed):
            self.refused(BadPatch, {"deed": deed}, read_patches, "\n".join(rows))

        good = ["patch cid 1", "knows none", "cut bob.1.1"]
        start = ["patch ann 1", "knows none", "keep bob.1.1"]
        for row in ("put foot head\n+x", "put foot bob.1.1\n+x", "put bob.1.1 head\n+x", "put head head\n+x",
                    "put foot foot\n+x", "put bob.1.1 bob.1.1\n+x", "order bob.1.1 bob.1.1", "cut ann.1.1",
                    "put ann.1.1 foot\n+x", "order ann.1.2 bob.1.1", "keep ann.1.999999"):
            bad_patch(start + [row], 2)
            bad_patch(good + start + [row] + good, 2)
            bad_patch(start + ["cut bob.1.1", row, "cut ann.1.1"], 3)
            self.bad_row("\n".join(start + [row] + ["patch bob"]), 4 + len(row.split("\n")), 3)
            self.bad_row("\n".join(start + [row] + good + [""]), 7 + len(row.split("\n")), 0)
        bad_patch(start[:2] + ["cut ann.1.1", "patch bob 1", "knows none", "keep bob.2.1", "cut bob.1.1"], 1)
        bad_patch(good + ["patch bob 1", "knows none", "keep bob.2.1", "cut bob.1.1"], 2)

    def see(self, text):
        """See that a text is refused, or not, as another way of reading tells."""
        wrong = wrong_row(text)
        if wrong is not None:
            self.bad_row(text, *wrong)
            return
        try:
            read = read_patches(text)
        except BadPatch:
            return
        self.assertEqual(patches_text(read), text)

    def test_rows_changed(self):
        rows = TEXT.split("\n")
        self.assertIsNone(wrong_row(TEXT))
        for at in range(len(rows) + 1):
            self.see("\n".join(rows[:at] + rows[at + 1:]))
            self.see("\n".join(rows[:at]))
            for row in rows + ["", " ", "+", "+" + "a" * 41, "patch", "knows", "x"]:
                self.see("\n".join(rows[:at] + [row] + rows[at:]))
                self.see("\n".join(rows[:at] + [row] + rows[at + 1:]))

    def test_words_changed(self):
        rows = TEXT.split("\n")
        for at, row in enumerate(rows):
            words = row.split(" ")
            for place in range(len(words) + 1):
                self.see("\n".join(rows[:at] + [" ".join(words[:place] + words[place + 1:])] + rows[at + 1:]))
                for word in WORDS + words[place:place + 1]:
                    for behind in (place, place + 1):
                        new = " ".join(words[:place] + [word] + words[behind:])
                        self.see("\n".join(rows[:at] + [new] + rows[at + 1:]))

    def test_words_told_before(self):
        # What a word told in one row holds in all others, but not where it may not stand.
        start = "patch ann 1\nknows none\nput head foot\n+x\n"
        for rows, row, word in (
                ("cut head", 5, 2), ("cut bob.1.1\ncut bob.1.1 bob.1.1", 6, 3), ("put foot head\n+x\norder head bob.1.1", 7, 2),
                ("order bob.1.1 bob.1.2\norder bob.1.2", 6, 3), ("cut bob.1.1\ncut bob.1.01", 6, 2),
                ("cut bob.1.1\npatch bob.1.1 1", 6, 2), ("cut bob.1.1\npatch cid 1\nknows bob.1.1", 7, 2)):
            self.bad_row(start + rows, row, word)
        text = start + "cut bob.1.1\npatch cid 1\nknows none\nput head foot\n+y\ncut bob.1.1\ncut ann.1.1"
        self.assertEqual([patch.told()[2][-2:] for patch in read_patches(text)], [
            [("put", HEAD, FOOT, ("x",)), ("cut", ("bob", 1, 1))], [("cut", ("bob", 1, 1)), ("cut", ("ann", 1, 1))]])
        # A line of its own is one patch's only.
        self.refused(BadPatch, {"deed": 1}, read_patches, start + "cut ann.1.1\npatch cid 1\nknows none\ncut cid.1.1")
        self.refused(BadPatch, {"deed": 2}, read_patches, start + "cut ann.1.2\npatch cid 1\nknows none\ncut ann.1.2")

    def test_a_long_patch_takes_no_long_time(self):
        # It is weighed against what must be done anyhow, several times, as other work may be going on beside.
        long = "patch abcdefgh 999\nknows none" + "\ncut q.1.1" * 400
        unlike = "patch abcdefgh 999\nknows none" + "".join(f"\ncut q.{at + 1}.{at + 7}" for at in range(400))
        for text, most in ((long, 22), (long + "\ncut", 16), (long + "\nput head", 16), (unlike, 30)):
            self.assertLess(min(self.weight(text) for _ in range(5)), most)

    def weight(self, text):
        """How many times as long reading a text takes as parting it into words."""
        def once(act):
            start = time.perf_counter()
            for _ in range(10):
                act(text)
            return time.perf_counter() - start

        def read(text):
            try:
                read_patches(text)
            except BadRow:
                pass

        return min(once(read) for _ in range(5)) / min(once(lambda text: [row.split(" ") for row in text.split("\n")])
                                                       for _ in range(5))

    def test_what_is_told_is_the_askers_own(self):
        read = read_patches(TEXT)
        read.pop()
        read[0].told()[2].clear()
        self.assertEqual(patches_text(read_patches(TEXT)), TEXT)
