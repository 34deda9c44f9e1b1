"""[61]: recorded changes."""

from manyheads.alike import least_change
from manyheads.errors import OutOfPlace
from manyheads.knowing import View
from manyheads.patch import Patch
from manyheads.quarrels import is_plain
from manyheads.record import recorded
from manyheads.sheet import sheet_texts
from manyheads.store import Store
from helpers import ANYTHING, Case, FOOT, HEAD, chances, put_all, putting
from plain import Plain, line_web, ring_store

A1, A2, B1, C1, D1 = ("a", 1), ("a", 2), ("b", 1), ("c", 1), ("d", 1)
X, Y, Z, NEW = ("a", 1, 1), ("a", 1, 2), ("a", 1, 3), ("d", 1, 1)


def lines(*places):
    return [("a", 1, place) for place in places]


def told_of(store):
    return ([store.patch_of(name).told() for name in store.names()], [(head, store.head_set(head)) for head in store.heads()])


def due_patch(store, head, hand, rows):
    """What recorded must tell, by the promise's words and the second reading of the head's set."""
    plain = Plain([store.patch_of(name).told() for name in store.head_set(head)])
    row = plain.told_row()
    if [plain.put[line] for line in row] == rows and not plain.quarrels():
        return None
    keepable = [line for at, line in enumerate(row) if not set(row[:at]) & set(plain.ring(line))]
    pairs = least_change([plain.put[line] for line in keepable], rows)[0]
    kept = {keepable[i]: j for i, j in pairs}
    deeds = [("cut", line) for line in row if line not in kept]
    deeds += [("keep", line) for line in row if line in kept and plain.state(line) == "torn"]
    wanted = {j: line for line, j in kept.items()}
    above, between = HEAD, []
    for at in range(len(rows) + 1):
        line = wanted.get(at, FOOT if at == len(rows) else None)
        if line is None:
            between.append(rows[at])
            continue
        if between:
            deeds.append(("put", above, line, tuple(between)))
        elif above != HEAD and line != FOOT and (above, line) not in plain.ahead:
            deeds.append(("order", above, line))
        above, between = line, []
    knows = {line[:2] for deed in deeds for line in deed[1:3] if line not in (HEAD, FOOT)}
    for deed in deeds:
        if deed[0] in ("cut", "keep"):
            knows |= {name for name, mark in plain.last_marks(deed[1]) if mark != deed[0]}
    knows = sorted(name for name in knows if not any(name in plain.known[other] for other in knows))
    return ((hand, max([0] + [number for other, number in store.names() if other == hand]) + 1), knows, deeds)


class Recorded(Case):

    def see(self, store, head, hand, rows):
        """See that the recorded patch is the one that is due, and does what it must; tell it."""
        before, kept = told_of(store), list(rows)
        patch = recorded(store, head, hand, rows)
        self.assertEqual((told_of(store), rows), (before, kept))
        due = due_patch(store, head, hand, rows)
        if patch is None:
            self.assertIsNone(due)
            return None
        self.assertIsInstance(patch, Patch)
        self.assertEqual(patch.told(), due)
        store = store.copied()
        store.put_patch(patch)
        store.pick(head, patch.told()[0])
        view = View(store, store.head_set(head))
        self.assertEqual(sheet_texts(view), rows)
        self.assertIs(is_plain(view), True)
        self.assertIsNone(recorded(store, head, hand, rows))
        return patch.told()

    def test_an_empty_sheet(self):
        store = Store()
        store.set_head("main", [])
        self.assertIsNone(self.see(store, "main", "ann", []))
        self.assertEqual(self.see(store, "main", "ann", ["x", "", "x"]),
                         (("ann", 1), [], [("put", HEAD, FOOT, ("x", "", "x"))]))

    def test_plain_sheets(self):
        store = put_all([putting(A1, texts=("one", "two", "three"))])
        store.set_head("main", [A1])
        for rows, deeds in (
                (["one", "two", "three"], None), ([], [("cut", X), ("cut", Y), ("cut", Z)]),
                (["one", "three"], [("cut", Y)]), (["two"], [("cut", X), ("cut", Z)]),
                (["zero", "one", "two", "three"], [("put", HEAD, X, ("zero",))]),
                (["one", "two", "three", "four", "five"], [("put", Z, FOOT, ("four", "five"))]),
                (["one", "new", "", "two", "three"], [("put", X, Y, ("new", ""))]),
                (["one", "2", "three"], [("cut", Y), ("put", X, Z, ("2",))]),
                (["three", "one", "two"], [("cut", Z), ("put", HEAD, X, ("three",))]),
                (["a", "b"], [("cut", X), ("cut", Y), ("cut", Z), ("put", HEAD, FOOT, ("a", "b"))])):
            told = self.see(store, "main", "bob", rows)
            self.assertEqual(told, None if deeds is None else (("bob", 1), [A1], deeds))

    def test_numbers(self):
        store = put_all([putting(A1, texts="x"), putting(("bob", 7)), putting(("bob", 3)), putting(("bo", 20))])
        store.set_head("main", [A1])
        for hand, number in (("bob", 8), ("a", 2), ("bo", 21), ("cid", 1)):
            self.assertEqual(self.see(store, "main", hand, ["y"])[0], (hand, number))

    def test_torn_lines(self):
        store = put_all([putting(A1, texts="xyz"), Patch(B1, [A1], [("cut", X), ("cut", Y)]),
                         Patch(C1, [A1], [("keep", X), ("keep", Y)])])
        store.set_head("main", [A1, B1, C1])
        for rows, knows, deeds in (
                ("xyz", [B1], [("keep", X), ("keep", Y)]), ("xz", [B1, C1], [("cut", Y), ("keep", X)]),
                ("z", [C1], [("cut", X), ("cut", Y)]), ("", [C1], [("cut", X), ("cut", Y), ("cut", Z)]),
                ("xyzw", [B1], [("keep", X), ("keep", Y), ("put", Z, FOOT, ("w",))])):
            self.assertEqual(self.see(store, "main", "d", list(rows)), (("d", 1), knows, deeds))

    def test_the_same_texts_but_not_plain(self):
        store = put_all([putting(A1, texts="x"), putting(B1, texts="y")])
        store.set_head("main", [A1, B1])
        self.assertEqual(self.see(store, "main", "c", ["x", "y"]), (C1, [A1, B1], [("order", X, ("b", 1, 1))]))
        self.assertEqual(self.see(store, "main", "c", ["y", "x"]), (C1, [A1, B1], [
            ("cut", ("b", 1, 1)), ("put", HEAD, X, ("y",))]))

    def test_rings(self):
        store = ring_store()
        store.set_head("main", [A1, B1, C1, D1])
        self.assertEqual(sheet_texts(View(store, store.names())), ["one", "two", "three", "new", "four", "six"])
        # Of the ring of the first three lines only the first can be kept, of that of the fourth and sixth the fourth.
        self.assertEqual(self.see(store, "main", "e", ["one", "new", "four"]),
                         (("e", 1), [D1], [("cut", Y), ("cut", Z), ("cut", ("a", 1, 6))]))
        self.assertEqual(self.see(store, "main", "e", ["one", "two", "three", "new", "four", "six"])[2], [
            ("cut", Y), ("cut", Z), ("cut", ("a", 1, 6)), ("put", X, NEW, ("two", "three")), ("put", ("a", 1, 4), FOOT, ("six",))])
        self.assertEqual(self.see(store, "main", "e", ["two"])[2], [("cut", line) for line in [X, Y, Z, NEW] + lines(4, 6)]
                         + [("put", HEAD, FOOT, ("two",))])

    def test_knots(self):
        store = ring_store()
        store.set_head("main", [A1, D1])
        self.assertEqual(sheet_texts(View(store, [A1, D1]))[:4], ["one", "two", "three", "new"])
        rest = ["four", "five", "six", "seven", "eight"]
        self.assertEqual(self.see(store, "main", "e", ["one", "two", "three", "new"] + rest),
                         (("e", 1), [D1], [("order", Z, NEW)]))
        self.assertEqual(self.see(store, "main", "e", ["one", "two", "new"] + rest)[2], [("cut", Z), ("order", Y, NEW)])
        self.assertEqual(self.see(store, "main", "e", ["one", "three", "x", "new"] + rest)[2],
                         [("cut", Y), ("put", Z, NEW, ("x",))])

    def test_what_it_knows(self):
        # a.2 and b.1 know a.1; c.1 knows b.1. A patch that cuts the lines of a.1 and c.1 knows c.1, and not a.1.
        store = put_all([putting(A1, texts="xy"), putting(A2, [A1], "z", X, Y), putting(B1, [A1], "u", Y),
                         putting(C1, [B1], "v", ("b", 1, 1))])
        store.set_head("main", store.names())
        for rows, knows in (("xzyuv!", [C1]), ("!xzyuv", [A1]), ("xzyu", [C1]), ("xyuv", [A2]), ("", [A2, C1]),
                            ("xz!yuv", [A2]), ("xzy!uv", [B1]), ("xyu", [A2, C1]), ("zyuv", [A1])):
            self.assertEqual(self.see(store, "main", "d", list(rows))[1], knows)

    def test_last_marks_that_it_knows(self):
        # x was kept again by b.1, and by c.1; who cuts it knows both, and not a.1.
        store = put_all([putting(A1, texts="xy"), Patch(B1, [A1], [("keep", X)]), Patch(C1, [A1], [("keep", X)]),
                         Patch(D1, [B1], [("cut", Y)])])
        store.set_head("main", [A1, B1, C1])
        self.assertEqual(self.see(store, "main", "e", ["y"]), (("e", 1), [B1, C1], [("cut", X)]))
        self.assertEqual(self.see(store, "main", "e", ["x"]), (("e", 1), [A1], [("cut", Y)]))

    def test_only_the_heads_set_counts(self):
        store = ring_store()
        store.set_head("main", [A1])
        store.set_head("other", store.names())
        texts = ["one", "two", "three", "four", "five", "six", "seven", "eight"]
        self.assertIsNone(self.see(store, "main", "e", texts))
        self.assertEqual(self.see(store, "main", "e", texts[1:]), (("e", 1), [A1], [("cut", X)]))
        self.assertEqual(self.see(store, "main", "d", texts[1:])[0], ("d", 2))

    def test_refused(self):
        store = put_all([putting(A1, texts="xy")])
        store.set_head("main", [A1])
        before = told_of(store)
        for thing in ANYTHING + ["other", ["main"], "Main", b"main"]:
            self.refused(OutOfPlace, {}, recorded, store, thing, "bob", ["x"])
            self.refused(OutOfPlace, {}, recorded, store, thing, thing, thing)
        for thing in ANYTHING + ["head", "foot", "none", "Bob", "ninesigns", ["bob"], A1, b"bob"]:
            self.refused(OutOfPlace, {}, recorded, store, "main", thing, ["x"])
            self.refused(OutOfPlace, {}, recorded, store, "main", thing, ["x", "y"])
        for thing in [thing for thing in ANYTHING if thing not in ([], ["ann"])] + [
                ("x", "y"), "xy", ["x"] * 201, ["x", "a" * 41], ["x\n"], ["x", 1], ["x", None], ["x", b"y"], ["x", ["y"]]]:
            self.refused(OutOfPlace, {}, recorded, store, "main", "bob", thing)
        self.assertEqual(told_of(store), before)
        self.assertEqual(len(recorded(store, "main", "bob", ["a" * 40] * 200).told()[2][-1][3]), 200)

    def test_no_number_left(self):
        store = put_all([putting(A1, texts="xy"), putting(("bob", 999)), putting(("cid", 998))])
        store.set_head("main", [A1])
        self.refused(OutOfPlace, {}, recorded, store, "main", "bob", ["x"])
        self.assertIsNone(recorded(store, "main", "bob", ["x", "y"]))
        self.assertEqual(self.see(store, "main", "cid", ["x"])[0], ("cid", 999))

    def test_many_deeds(self):
        store = put_all([Patch(A1, [], [("put", HEAD, FOOT, ("x",) * 200), ("put", ("a", 1, 200), FOOT, ("x",) * 200)])])
        store.put_patch(putting(B1, [A1], "y", ("a", 1, 400)))
        store.set_head("main", [A1])
        store.set_head("more", [A1, B1])
        self.assertEqual(recorded(store, "main", "c", []).told(), (C1, [A1], [("cut", line) for line in lines(*range(1, 401))]))
        self.refused(OutOfPlace, {}, recorded, store, "main", "c", ["z"])
        self.refused(OutOfPlace, {}, recorded, store, "more", "c", [])
        self.assertEqual(len(recorded(store, "more", "c", ["x"]).told()[2]), 400)
        self.assertEqual(recorded(store, "more", "c", ["y"]).told()[2], [("cut", line) for line in lines(*range(1, 401))])

    def test_long_rows(self):
        store = Store()
        store.set_head("main", [])
        some = chances(3)
        for number in range(1, 5):
            rows = [f"{next(some) % 30:>40}" for _ in range(200)]
            self.assertEqual(self.told_after(store, rows, number), rows)

    def told_after(self, store, rows, number):
        """The texts of a head behind a recorded patch, which is put and picked."""
        patch = recorded(store, "main", "ann", rows)
        self.assertEqual(patch.told()[0], ("ann", number))
        store.put_patch(patch)
        store.pick("main", ("ann", number))
        return sheet_texts(View(store, store.head_set("main")))

    def test_webs(self):
        made = 0
        for seed in range(60):
            store = line_web(seed, 2 + seed % 7)
            some = chances(seed)
            names = store.names()
            store.set_head("main", store.closed_by([name for name in names if next(some) % 3]))
            texts = sheet_texts(View(store, store.head_set("main")))
            more = [text for pair in zip(texts, "xyz" * len(texts)) for text in pair]
            for rows in (texts, texts[::-1], [text for text in texts if next(some) % 2], ["x", "y"], more, []):
                made += self.see(store, "main", "abz"[next(some) % 3], rows) is not None
        self.assertGreater(made, 200)
