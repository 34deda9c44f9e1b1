"""[150] to [155]: the shell."""

from manyheads.check import check
from manyheads.errors import HeadsError
from manyheads.history import History
from manyheads.hunt import Hunt
from manyheads.knowing import View
from manyheads.pack import pack_text, sum_of
from manyheads.packread import pack_read
from manyheads.paper import paper_for
from manyheads.patchread import read_patches
from manyheads.patchtext import patches_text
from manyheads.quarrels import quarrels
from manyheads.record import recorded
from manyheads.sets import lacking_log, log_of, tops
from manyheads.sheet import sheet_texts, told_row
from manyheads.shell import Shell, told_all
from manyheads.store import Store
from manyheads.story import story
from manyheads.words import line_of, line_text, name_of, name_text
from helpers import ANYTHING, Case, chances, put_all
from plain import line_web, ring_store
from test_history import all_told

FIRST = "take\npatch a 1\nknows none\nput head foot\n+one\n+two\npatch b 1\nknows a.1\ncut a.1.2\nput a.1.1 foot\n+three"
SECOND = "take\npatch c 1\nknows a.1\nkeep a.1.2\nput head a.1.1\n+zero\n+nought\npatch d 1\nknows none"


def pack_of(*rows):
    return "\n".join([*rows, f"sum {sum_of(rows)}"])


class ShellCase(Case):

    def setUp(self):
        self.shell = Shell()

    def say(self, *rows):
        """See what is answered; rows are pairs of a text and its answer."""
        for text, answer in zip(rows[::2], rows[1::2]):
            self.assertEqual(self.shell.say(text), answer, text)

    def nothing_changed(self, texts, answer):
        """See that texts are answered so, and that nothing changes."""
        for text in texts:
            before = (all_told(self.shell.history()), [self.shell.say(word) for word in ("ask", "found", "worst")])
            self.say(text, answer)
            self.assertEqual((all_told(self.shell.history()), [self.shell.say(word) for word in ("ask", "found", "worst")]), before)


class Deeds(ShellCase):

    def test_a_new_shell(self):
        self.say("names", "none", "heads", "none", "here", "0", "way 0 0", "0", "pack", pack_of("pack", "states 1 0 none"),
                 "undo", "refused outofplace", "redo", "refused outofplace", "sweep", "done")
        self.assertEqual(self.shell.history().told(), History(Store()).told())

    def test_take(self):
        self.say(FIRST, "done", "names", "a.1 b.1", FIRST, "done", SECOND, "done", "names", "a.1 b.1 c.1 d.1", "here", "0")
        self.assertEqual(self.shell.history().store_at(0).patch_of(("b", 1)).told(),
                         (("b", 1), [("a", 1)], [("cut", ("a", 1, 2)), ("put", ("a", 1, 1), ("", 0, 1), ("three",))]))

    def test_take_refused(self):
        self.say(FIRST, "done")
        self.nothing_changed(["take", "take\n"], "refused badrow 1 0")
        self.nothing_changed(["take\npatch a 1\nknown none"], "refused badrow 2 1")
        self.nothing_changed(["take\npatch n 1\nknows none\nput head foot\n+x\nkeep n.1.2"], "refused badpatch 2")
        self.nothing_changed(["take\npatch n 1\nknows none\npatch a 1\nknows none"], "refused unlike a.1")
        self.nothing_changed(["take\npatch n 1\nknows none\npatch n 2\nknows n.1 n.3 z.9"], "refused notclosed n.3 z.9")
        self.nothing_changed(["take\npatch n 1\nknows none\npatch n 2\nknows b.1\ncut b.1.1\ncut a.1.3"], "refused badpatch 2")
        self.nothing_changed(["take\n" + FIRST[5:] + "\n" + SECOND[5:] + "\n\n"], "refused badrow 19 0")

    def test_heads(self):
        self.say(FIRST, "done", SECOND, "done", "set main b.1", "done", "heads", "main b.1", "log main", "a.1 b.1",
                 "set side none", "done", "heads", "main b.1\nside none", "log side", "none", "pick side c.1", "done",
                 "set both d.1 c.1 d.1", "done", "heads", "both c.1 d.1\nmain b.1\nside c.1", "merge main side", "done", "log main", "a.1 b.1 c.1",
                 "lacks side main", "b.1", "lacks main side", "none", "lacks side both", "d.1", "lacks both main", "b.1", "out main c.1", "done",
                 "heads", "both c.1 d.1\nmain b.1\nside c.1", "with both a.1", "done", "log both", "d.1", "drop both", "done", "heads", "main b.1\nside c.1",
                 "here", "8")

    def test_heads_refused(self):
        self.say(FIRST, "done", SECOND, "done", "set main b.1 c.1", "done")
        self.nothing_changed(["drop side", "merge main side", "merge side main", "pick side a.1", "pick main z.1", "out main d.1", "with main d.1",
                              "out side a.1", "with side a.1", "set main z.1", "set main a.1 z.1", "log side", "lacks main side", "lacks side main",
                              "sheet side", "lines side", "quarrels side", "story side a.1.1", "paper side stands a.1.1", "record side a",
                              "hunt side", "hunt main side", "story main a.1.3", "story main head", "story main d.1.1"], "refused outofplace")
        self.nothing_changed(["out main a.1"], "refused hindered b.1 c.1")

    def test_heads_called_as_other_words(self):
        self.say(FIRST, "done", "set none none", "done", "set head a.1", "done", "set gone none", "done", "heads", "gone none\nhead a.1\nnone none",
                 "merge none head", "done", "hunt none gone", "done", "found", "a.1", "drop none", "done", "drop head", "done", "heads", "gone none")

    def test_undoing(self):
        self.say(FIRST, "done", "set main a.1", "done", "pick main b.1", "done", "here", "2", "pick main b.1", "done", "here", "2", "undo", "done",
                 "heads", "main a.1", "set side none", "done", "way 2 3", "2 1 3", "way 3 0", "3 1 0", "go 2", "done", "heads", "main b.1",
                 "undo", "done", "redo", "done", "here", "2", "go 0", "done", "heads", "none", "redo", "done", "redo", "done", "here", "2",
                 "redo", "refused outofplace")
        self.nothing_changed(["go 4", "go 999999", "way 0 4", "way 4 0", "redo"], "refused outofplace")

    def test_sweep(self):
        self.say(FIRST, "done", SECOND, "done", "set main b.1", "done", "undo", "done", "sweep", "done", "names", "a.1 b.1",
                 "redo", "done", "heads", "main b.1")

    def test_unpack(self):
        self.say(FIRST, "done", "set main a.1", "done", "pick main b.1", "done", "undo", "done", "hunt main", "done")
        history, text = self.shell.history(), self.shell.say("pack")
        self.assertEqual(pack_text(history), text)
        other = Shell()
        self.assertEqual(other.say(SECOND), "refused notclosed a.1")
        self.assertEqual(other.say("unpack\n" + text), "done")
        self.assertEqual((all_told(other.history()), other.say("pack")), (all_told(history), text))
        # Of a store's pack it is a new history; the hunt is gone.
        store = history.store_at(2)
        self.say("unpack\n" + pack_text(store), "done", "ask", "refused badhunt", "here", "0", "heads", "main b.1", "undo", "refused outofplace")
        self.assertEqual(all_told(self.shell.history()), all_told(History(store)))

    def test_unpack_refused(self):
        self.say(FIRST, "done", "set main b.1", "done", "hunt main", "done")
        self.nothing_changed(["unpack", "unpack\n", "unpack\npatch a 1"], "refused badpack 1")
        self.nothing_changed(["unpack\npack", "unpack\npack\nsum 1"], "refused badpack 2")
        self.nothing_changed(["unpack\n" + self.shell.say("pack") + "\n"], f"refused badpack {self.shell.say('pack').count(chr(10)) + 2}")

    def test_record(self):
        self.say(FIRST, "done", "set main b.1", "done", "record main cid\n+one\n+new\n+three", "done", "sheet main", "+one\n+new\n+three", "here", "2",
                 "names", "a.1 b.1 cid.1", "record main cid\n+one\n+new\n+three", "done", "names", "a.1 b.1 cid.1", "here", "2",
                 "record main cid", "done", "sheet main", "none", "heads", "main cid.2", "undo", "done", "sheet main", "+one\n+new\n+three",
                 "record main a\n+\n+" + "x" * 40, "done", "sheet main", "+\n+" + "x" * 40, "names", "a.1 a.2 b.1 cid.1 cid.2")

    def test_record_refused(self):
        self.say(FIRST, "done", "set main b.1", "done")
        self.nothing_changed(["record side a\n+x", "record main head\n+x", "record main none", "record main foot\n+x", "record main a\n+" + "x" * 41,
                              "record main a" + "\n+x" * 201], "refused outofplace")
        self.nothing_changed(["record main a\nx", "record main a\n+x\n", "record main a\n+x\n =", "record main a1\n+x", "record main\n+x",
                              "record main a b\n+x", "record main ninesigns\n+x", "record main a "], "refused line")


class Questions(ShellCase):

    def test_rings(self):
        store = ring_store()
        self.say("take\n" + patches_text([store.patch_of(name) for name in store.names()]), "done", "set main b.1 c.1 d.1", "done",
                 "sheet main", "+one\n+two\n+three\n+new\n+four\n+six", "lines main", "a.1.1\na.1.2\na.1.3\nd.1.1\na.1.4\na.1.6",
                 "quarrels main", "torn a.1.2\nknot a.1.1 a.1.2 a.1.3\nknot a.1.4 a.1.6", "story main a.1.2", "a.1 put\nc.1 cut\nd.1 keep",
                 "story main a.1.5", "a.1 put\nb.1 cut", "set none none", "done", "sheet none", "none", "lines none", "none", "quarrels none", "none",
                 "log none", "none", "lacks main none", "none", "lacks none main", "a.1 b.1 c.1 d.1")

    def test_a_text_like_a_word(self):
        self.say("take\npatch a 1\nknows none\nput head foot\n+none\n+\n++x", "done", "set main a.1", "done", "sheet main", "+none\n+\n++x")

    def test_papers(self):
        store = ring_store()
        self.say("take\n" + patches_text([store.patch_of(name) for name in store.names()]), "done", "set main b.1 c.1 d.1", "done", "set small d.1", "done")
        for claim, answer in (("stands a.1.1", "yes"), ("stands a.1.2", "no"), ("torn a.1.2", "yes"), ("gone a.1.5", "yes"), ("gone a.1.1", "no"),
                              ("torn a.1.1", "no"), ("stands a.1.9", "no"), ("stands head", "no"), ("gone foot", "no"), ("torn z.1.1", "no"),
                              ("ahead a.1.1 a.1.3", "yes"), ("ahead a.1.3 a.1.1", "yes"), ("ahead head foot", "yes"), ("ahead foot head", "no"),
                              ("ahead a.1.1 a.1.1", "yes"), ("ahead d.1.1 d.1.1", "no"), ("ahead head a.1.9", "no"), ("loose a.1.1 d.1.1", "no"),
                              ("knows d.1 a.1", "yes"), ("knows a.1 d.1", "no"), ("knows a.1 a.1", "no"), ("knows z.1 a.1", "no")):
            self.say(f"paper main {claim}", answer)
        for claim, answer in (("loose a.1.2 d.1.1", "yes"), ("loose d.1.1 a.1.2", "no"), ("loose a.1.2 a.1.2", "no"), ("loose a.1.1 d.1.1", "no"),
                              ("loose head a.1.1", "no"), ("knows b.1 a.1", "no"), ("gone a.1.5", "no"), ("stands a.1.5", "yes")):
            self.say(f"paper small {claim}", answer)
        self.nothing_changed([f"paper main {claim}" for claim in (
            "stands", "stands a.1.1 a.1.2", "stands a.1", "gone a.01.1", "ahead a.1.1", "ahead a.1.1 a.1.2 a.1.3", "loose a.1.1", "knows a.1",
            "knows a.1 b.1 c.1", "knows a.1.1 b.1", "not known a.1 b.1", "sheet", "Stands a.1.1", "ring a.1.1 a.1.2", "ahead a.1.1  a.1.2",
            "stands a.1.1 ", "knot a.1.1", "ahead none none", "knows none none")] + ["paper main", "paper", "paper Main stands a.1.1"], "refused line")

    def test_heads_are_those_of_the_state(self):
        self.say(FIRST, "done", "set main a.1", "done", "pick main b.1", "done", "sheet main", "+one\n+three", "undo", "done", "sheet main", "+one\n+two",
                 "log main", "a.1", "undo", "done", "sheet main", "refused outofplace", "heads", "none")


class Hunts(ShellCase):

    def test_without_a_hunt(self):
        self.say(FIRST, "done", "set main b.1", "done")
        for word in ("ask", "bad", "good", "back", "found", "worst"):
            self.say(word, "refused badhunt")

    def test_hunt(self):
        self.say(FIRST, "done", SECOND, "done", "set main b.1 c.1 d.1", "done", "set fine none", "done", "hunt main fine", "done", "worst", "2",
                 "ask", "a.1 b.1", "ask", "a.1 b.1", "found", "none", "back", "refused outofplace", "good", "done", "worst", "1", "ask", "a.1 c.1", "bad", "done",
                 "ask", "none", "found", "c.1", "worst", "0", "bad", "refused badhunt", "good", "refused badhunt", "back", "done", "ask", "a.1 c.1",
                 "found", "none", "good", "done", "found", "d.1", "back", "done", "back", "done", "worst", "2", "ask", "a.1 b.1")

    def test_good_heads(self):
        self.say(FIRST, "done", SECOND, "done", "set main b.1 c.1 d.1", "done", "set one a.1", "done", "set two d.1", "done", "hunt main one two", "done",
                 "worst", "1", "ask", "a.1 b.1", "bad", "done", "found", "b.1", "hunt main one two one", "done", "found", "none")
        # What is refused leaves the hunt as it was.
        self.nothing_changed(["hunt one main", "hunt one one"], "refused badhunt")
        self.nothing_changed(["hunt", "hunt Main", "hunt main one.1", "hunt main\n", "ask main", "found 1", "bad bad"], "refused line")

    def test_a_hunt_keeps_what_was_there(self):
        self.say(FIRST, "done", "set main b.1", "done", "hunt main", "done", "drop main", "done", "undo", "done", "undo", "done", "heads", "none",
                 "ask", "a.1", "good", "done", "found", "b.1")


class Lines(ShellCase):

    GOOD = ["set main a.1 b.1", "drop main", "merge main side", "pick main a.1", "out main b.1", "with main b.1", "undo", "redo", "go 1", "sweep",
            "names", "log main", "lacks main side", "heads", "here", "way 0 1", "sheet main", "lines main", "quarrels main", "story main a.1.1",
            "pack", "paper main stands a.1.1", "hunt main side", "ask", "bad", "good", "back", "found", "worst"]

    def setUp(self):
        ShellCase.setUp(self)
        self.say(FIRST, "done", "set side none", "done", "set main b.1", "done", "undo", "done", "redo", "done", "hunt main", "done")

    def test_good(self):
        for text in self.GOOD:
            self.setUp()
            self.assertNotEqual(self.shell.say(text), "refused line", text)

    def test_blanks(self):
        for text in self.GOOD:
            self.nothing_changed([" " + text, text + " ", text.replace(" ", "  ", 1) if " " in text else "  " + text, "\n" + text], "refused line")
        self.nothing_changed(["take " + FIRST[4:], " " + FIRST, "unpack \npack", "record main  a\n+x"], "refused line")

    def test_words_too_few_and_too_many(self):
        for text in self.GOOD:
            more = text + (" a.1.1" if text.startswith(("set", "hunt")) else " a")
            self.nothing_changed([more], "refused line")
            if " " in text and not text.startswith("hunt"):
                self.nothing_changed([text.rsplit(" ", 1)[0]] if text != "set main a.1 b.1" else ["set main", "set"], "refused line")
        self.nothing_changed(["take a\n" + FIRST[5:], "unpack a", "record", "record main", "record main a b", "hunt", "paper main", "way 1", "go"], "refused line")

    def test_rows_behind(self):
        for text in self.GOOD:
            self.nothing_changed([text + "\n", text + "\n+x", text + "\n\n"], "refused line")

    def test_numbers(self):
        for word in ("00", "01", "+1", "-1", "-0", "1.0", "0x1", "1000000", "0000001", "a", "none", "", "1e0", "1_0", "999999999999"):
            self.nothing_changed([f"go {word}", f"way 0 {word}", f"way {word} 0"], "refused line")
        self.nothing_changed(["go 100000", "go 999999"], "refused outofplace")

    def test_names_and_heads(self):
        for word in ("a", "a.01", "a.0", "a.1000", "a.1.1", "head.1", "none", "A.1", "a.1,", "ninesigns.1", ".1", "a."):
            self.nothing_changed([f"pick main {word}", f"out main {word}", f"with main {word}"], "refused line")
            if word != "none":
                self.nothing_changed([f"set main {word}", f"set main a.1 {word}", f"set main none {word}"], "refused line")
        for word in ("Main", "ninesigns", "a1", "a.1", "1", "main.", "maIn"):
            self.nothing_changed([f"{verb} {word}" for verb in ("drop", "log", "sheet", "lines", "quarrels", "hunt", "hunt main")], "refused line")
            self.nothing_changed([f"set {word} a.1", f"merge main {word}", f"merge {word} main", f"pick {word} a.1", f"lacks main {word}",
                                  f"story {word} a.1.1", f"paper {word} stands a.1.1", f"record {word} a", f"record main {word}"], "refused line")
        for word in ("a.1", "a.1.0", "a.1.01", "a.1.1000000", "heads", "none", "a.1.1.1", "A.1.1"):
            self.nothing_changed([f"story main {word}", f"paper main stands {word}"], "refused line")
        self.nothing_changed(["set main none none", "set main a.1 none", "set main none a.1"], "refused line")

    def test_none_of_these(self):
        self.nothing_changed(["", " ", "\n", "Names", "name", "NAMES", "help", "+", "+names", "take\t", "undo\t", "names;", "not known", "sum", "states",
                              "put_patch", "none", "done"], "refused line")
        for thing in [thing for thing in ANYTHING if not isinstance(thing, str)] + [b"names", ["names"], ("names",)]:
            self.assertEqual(self.shell.say(thing), "refused line")

    def test_told_all(self):
        texts = [FIRST, "set main b.1", "sheet main", None, "names", "undo", "heads", "bad"]
        self.assertEqual(told_all(texts), ["done", "done", "+one\n+three", "refused line", "a.1 b.1", "done", "none", "refused badhunt"])
        self.assertEqual((told_all([]), told_all(["names"])), ([], ["none"]))
        self.assertEqual(len(texts), 8)

    def test_history_is_a_copy(self):
        history = self.shell.history()
        self.assertIsInstance(history, History)
        before = all_told(history)
        history.drop_head("main")
        history.sweep()
        history.go(0)
        self.assertEqual(all_told(self.shell.history()), before)
        history = self.shell.history()
        self.say("drop main", "done")
        self.assertEqual(all_told(history), before)


class Model:
    """What a shell is due to answer, from what a history, views, hunts and packs tell when they are asked directly."""

    def __init__(self):
        self.history, self.hunt = History(Store()), None

    def names(self, names):
        return " ".join(name_text(name) for name in names or []) or "none"

    def answer(self, word, *things):
        try:
            return getattr(self, "do_" + word)(*things)
        except HeadsError as error:
            told = ["refused", error.__class__.__name__.lower()]
            for field in ("row", "word", "deed"):
                told += [str(getattr(error, field))] if hasattr(error, field) else []
            for field in ("lacking", "knowing"):
                told += [self.names(getattr(error, field))] if hasattr(error, field) else []
            return " ".join(told + ([name_text(error.name)] if hasattr(error, "name") and told[1] == "unlike" else []))

    def store(self):
        return self.history.store_at(self.history.here())

    def view(self, head):
        return View(self.store(), self.store().head_set(head))

    def deed(self, act, *things):
        act(*things)
        return "done"

    def do_take(self, text):
        patches, other = read_patches(text), self.history.copied()
        for patch in patches:
            other.put_patch(patch)
        self.history = other
        return "done"

    def do_set(self, head, names):
        return self.deed(self.history.set_head, head, self.store().closed_by(names))

    def do_drop(self, head):
        return self.deed(self.history.drop_head, head)

    def do_merge(self, head, other):
        return self.deed(self.history.merge_heads, head, other)

    def do_pick(self, head, name):
        return self.deed(self.history.pick, head, name)

    def do_out(self, head, name):
        return self.deed(self.history.take_out, head, name)

    def do_with(self, head, name):
        return self.deed(self.history.take_with, head, name)

    def do_undo(self):
        return self.deed(self.history.undo)

    def do_redo(self):
        return self.deed(self.history.redo)

    def do_go(self, number):
        return self.deed(self.history.go, number)

    def do_sweep(self):
        return self.deed(self.history.sweep)

    def do_unpack(self, text):
        kept = pack_read(text)
        self.history, self.hunt = kept if isinstance(kept, History) else History(kept), None
        return "done"

    def do_record(self, head, hand, texts):
        patch = recorded(self.store(), head, hand, texts)
        if patch is not None:
            self.history.put_patch(patch)
            self.history.pick(head, patch.told()[0])
        return "done"

    def do_names(self):
        return self.names(self.store().names())

    def do_log(self, head):
        return self.names(log_of(self.store(), self.store().head_set(head)))

    def do_lacks(self, head, other):
        return self.names(lacking_log(self.store(), head, other))

    def do_heads(self):
        store = self.store()
        return "\n".join(head + " " + self.names(tops(store, store.head_set(head))) for head in store.heads()) or "none"

    def do_here(self):
        return str(self.history.here())

    def do_way(self, one, other):
        return " ".join(str(number) for number in self.history.way(one, other))

    def do_sheet(self, head):
        return "\n".join("+" + text for text in sheet_texts(self.view(head))) or "none"

    def do_lines(self, head):
        return "\n".join(line_text(line) for line in told_row(self.view(head))) or "none"

    def do_quarrels(self, head):
        rows = [word + " " + (line_text(told) if word == "torn" else " ".join(map(line_text, told))) for word, told in quarrels(self.view(head))]
        return "\n".join(rows) or "none"

    def do_story(self, head, line):
        return "\n".join(name_text(name) + " " + word for name, word in story(self.view(head), line))

    def do_pack(self):
        return pack_text(self.history)

    def do_paper(self, head, claim):
        view = self.view(head)
        try:
            paper = paper_for(view, claim)
            check([view.patch_of(name).told() for name in view.names()], view.names(), claim, paper)
        except ValueError:
            return "no"
        return "yes"

    def do_hunt(self, head, others):
        store = self.store()
        self.hunt = Hunt(store, store.head_set(head), [store.head_set(other) for other in others], [])
        return "done"

    def do_ask(self):
        return self.names(self.hunt.question()) if self.hunt else "refused badhunt"

    def do_bad(self):
        return self.deed(self.hunt.tell, True) if self.hunt else "refused badhunt"

    def do_good(self):
        return self.deed(self.hunt.tell, False) if self.hunt else "refused badhunt"

    def do_back(self):
        return self.deed(self.hunt.back) if self.hunt else "refused badhunt"

    def do_found(self):
        return self.names(self.hunt.found()) if self.hunt else "refused badhunt"

    def do_worst(self):
        return str(self.hunt.worst()) if self.hunt else "refused badhunt"


class Sessions(ShellCase):

    def texts(self, some, web, packs):
        """A text, and the word and things with which a model is told the same."""
        names = [name_text(name) for name in web.names()]
        lines = [f"{name}.{1 + next(some) % 4}" for name in names] + ["head", "foot"]

        def pick(row):
            return row[next(some) % len(row)]

        # Those that leave little are told seldom.
        heads, word = ["main", "main", "side", "none"], pick([*list(self.FORMS) * 3, *["take", "set", "hunt", "good", "bad", "back"] * 8][next(some) % 3:])
        if word in ("sweep", "unpack", "drop", "undo") and next(some) % 5:
            word = "set"
        told, things = [word], []
        for kind in self.FORMS[word]:
            if kind == "patches":
                text = patches_text([web.patch_of(name) for name in web.names() if next(some) % 2])
                return word + "\n" + text, (word, text)
            if kind == "pack":
                text = pick(packs)
                return word + "\n" + text, (word, text)
            if kind == "texts":
                texts = [pick(["x", "y", "z", "w"]) for _ in range(next(some) % 5)]
                return " ".join(told) + "".join("\n+" + text for text in texts), (word, *things, texts)
            if kind == "claim":
                sort = pick(["stands", "gone", "torn", "ahead", "loose", "knows"])
                words = [pick(names if sort == "knows" else lines) for _ in range(1 if sort in ("stands", "gone", "torn") else 2)]
                told += [sort, *words]
                things.append((sort, *[(name_of if sort == "knows" else line_of)(one) for one in words]))
            elif kind == "names":
                words = [pick(names) for _ in range(next(some) % 3)]
                told += words or ["none"]
                things.append([name_of(one) for one in words])
            elif kind == "heads":
                words = [pick(heads) for _ in range(next(some) % 3)]
                told += words
                things.append(words)
            else:
                row = {"head": heads, "hand": ["a", "new", "head"], "name": names, "line": lines, "number": list("01234567")}[kind]
                told.append(pick(row))
                things.append({"name": name_of, "line": line_of, "number": int}.get(kind, str)(told[-1]))
        return " ".join(told), (word, *things)

    FORMS = {
        "take": ["patches"], "set": ["head", "names"], "drop": ["head"], "merge": ["head", "head"], "pick": ["head", "name"],
        "out": ["head", "name"], "with": ["head", "name"], "undo": [], "redo": [], "go": ["number"], "sweep": [], "unpack": ["pack"],
        "record": ["head", "hand", "texts"], "names": [], "log": ["head"], "lacks": ["head", "head"], "heads": [], "here": [],
        "way": ["number", "number"], "sheet": ["head"], "lines": ["head"], "quarrels": ["head"], "story": ["head", "line"], "pack": [],
        "paper": ["head", "claim"], "hunt": ["head", "heads"], "ask": [], "bad": [], "good": [], "back": [], "found": [], "worst": []}

    def test_as_told_when_asked_directly(self):
        answers = {}
        for seed in range(40):
            some, web = chances(seed), line_web(seed, 6)
            shell, model, packs = Shell(), Model(), [pack_text(put_all([])), "pack"]
            text = patches_text([web.patch_of(name) for name in log_of(web, web.names())])
            last = web.names()[-1]
            for words, told in [("take\n" + text, ("take", text)), ("set main " + name_text(last), ("set", "main", [last])),
                                ("set side none", ("set", "side", []))]:
                self.assertEqual(shell.say(words), model.answer(*told))
            for _ in range(150):
                text, told = self.texts(some, web, packs)
                if model.history.how_many() > 70:
                    break
                answer = model.answer(*told)
                self.assertEqual(shell.say(text), answer, text)
                key = (told[0], answer.split(" ")[0] == "refused")
                answers[key] = answers.get(key, 0) + 1
                if told[0] == "pack":
                    packs.append(answer)
            self.assertEqual(all_told(shell.history()), all_told(model.history))
        for word in self.FORMS:
            self.assertGreater(answers.get((word, False), 0), 5, (word, answers))
