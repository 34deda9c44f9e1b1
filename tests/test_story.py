"""[140], [141], [142]: stories and turns of lines, by whom they are told, what changed between two heads."""

from manyheads.errors import OutOfPlace
from manyheads.knowing import View
from manyheads.marks import marks_of
from manyheads.patch import Patch
from manyheads.sets import log_of
from manyheads.sheet import told_row
from manyheads.story import changed, story, turns, who
from helpers import ANYTHING, EQUALS, FOOT, HEAD, Case, put_all, putting
from plain import Plain, line_web, ring_store

A1, A2, A3, B1, B2, C1, D1, E1 = ("a", 1), ("a", 2), ("a", 3), ("b", 1), ("b", 2), ("c", 1), ("d", 1), ("e", 1)
X, Y, Z = ("a", 1, 1), ("a", 1, 2), ("a", 1, 3)


def lines(*places):
    return [("a", 1, place) for place in places]


class Stories(Case):

    def setUp(self):
        # c.1 and b.1 don't know each other; d.1 knows both, e.1 just c.1.
        self.store = put_all([
            Patch(A1, [], [("put", HEAD, FOOT, ("one", "two", "three")), ("cut", Z)]),
            Patch(C1, [A1], [("cut", X), ("keep", Z)]),
            Patch(B1, [A1], [("keep", X)]),
            Patch(D1, [B1, C1], [("keep", X), ("cut", Y)]),
            Patch(E1, [C1], [("cut", X), ("keep", Y), ("cut", Y)])])

    def view(self, *names):
        return View(self.store, list(names))

    def test_story(self):
        view = self.view(A1, B1, C1, D1, E1)
        self.assertEqual(story(view, X), [(A1, "put"), (B1, "keep"), (C1, "cut"), (D1, "keep"), (E1, "cut")])
        self.assertEqual(story(view, Y), [(A1, "put"), (D1, "cut"), (E1, "cut")])
        self.assertEqual(story(view, Z), [(A1, "cut"), (C1, "keep")])
        self.assertEqual(story(self.view(A1), X), [(A1, "put")])
        self.assertEqual(story(self.view(A1), Z), [(A1, "cut")])

    def test_the_order_is_the_logs(self):
        store = put_all([putting(("z", 1)), Patch(("b", 7), [("z", 1)], [("cut", ("z", 1, 1))]), Patch(("c", 3), [], []),
                         Patch(("a", 9), [("b", 7)], [("keep", ("z", 1, 1))])])
        view = View(store, store.names())
        self.assertEqual(story(view, ("z", 1, 1)), [(("z", 1), "put"), (("b", 7), "cut"), (("a", 9), "keep")])
        self.assertEqual(turns(view, ("z", 1, 1)), [(("z", 1), "stands"), (("b", 7), "gone"), (("a", 9), "stands")])

    def test_marks_by_the_patch_itself(self):
        store = put_all([Patch(A1, [], [("put", HEAD, FOOT, ("v", "w", "x", "y", "z")), ("cut", lines(1)[0]), ("keep", lines(2)[0]), ("cut", lines(3)[0]),
                                        ("keep", lines(3)[0]), ("keep", lines(4)[0]), ("cut", lines(4)[0])])])
        view = View(store, [A1])
        # The last mark alone: a cut or a keep that stands behind the putting is in the place of it.
        self.assertEqual([story(view, line) for line in lines(1, 2, 3, 4, 5)],
                         [[(A1, "cut")], [(A1, "keep")], [(A1, "keep")], [(A1, "cut")], [(A1, "put")]])
        self.assertEqual([turns(view, line) for line in lines(1, 2, 3, 4, 5)],
                         [[(A1, "gone")], [(A1, "stands")], [(A1, "stands")], [(A1, "gone")], [(A1, "stands")]])

    def test_turns(self):
        view = self.view(A1, B1, C1, D1, E1)
        self.assertEqual(turns(view, X), [(A1, "stands"), (C1, "torn"), (D1, "stands"), (E1, "torn")])
        self.assertEqual(turns(view, Y), [(A1, "stands"), (D1, "gone")])
        self.assertEqual(turns(view, Z), [(A1, "gone"), (C1, "stands")])
        self.assertEqual(turns(self.view(A1, C1, E1), X), [(A1, "stands"), (C1, "gone")])
        self.assertEqual(turns(self.view(A1, B1, C1, D1), X), [(A1, "stands"), (C1, "torn"), (D1, "stands")])

    def test_refused(self):
        view = self.view(A1, B1)
        for thing in ANYTHING + EQUALS + [HEAD, FOOT, ("a", 1, 4), ("c", 1, 1), list(X), A1, ("b", 1, 1)]:
            self.refused(OutOfPlace, {}, story, view, thing)
            self.refused(OutOfPlace, {}, turns, view, thing)

    def test_webs(self):
        for seed in range(60):
            store = line_web(seed, 9)
            names = store.names() if seed % 2 else store.closed_by(store.names()[:4])
            view, log = View(store, names), log_of(store, names)
            plains = [Plain([store.patch_of(name).told() for name in log[:many]]) for many in range(1, len(log) + 1)]
            for line in plains[-1].put:
                marks = dict(marks_of(view, line))
                due = []
                for name in log:
                    if name in marks:
                        deeds = [deed for deed in store.patch_of(name).told()[2] if deed in (("cut", line), ("keep", line))]
                        due.append((name, deeds[-1][0] if deeds else "put"))
                self.assertEqual(story(view, line), due)
                states = [(name, plain.state(line)) for name, plain in zip(log, plains) if line in plain.put]
                self.assertEqual(turns(view, line), [row for at, row in enumerate(states) if at == 0 or states[at - 1][1] != row[1]])

    def test_what_is_told_is_the_askers_own(self):
        view = self.view(A1, B1, C1)
        story(view, X).clear()
        turns(view, X).clear()
        self.assertEqual(story(view, X), [(A1, "put"), (B1, "keep"), (C1, "cut")])
        self.assertEqual(turns(view, X), [(A1, "stands"), (C1, "torn")])
        told = story(view, X)
        view.add_patch(D1)
        self.assertEqual(told, [(A1, "put"), (B1, "keep"), (C1, "cut")])
        self.assertEqual(story(view, X), [*told, (D1, "keep")])


class Who(Case):

    def test_who(self):
        view = View(ring_store(), [A1, B1, C1, D1])
        self.assertEqual(who(view), [(X, [A1], []), (Y, [D1], [C1]), (Z, [A1], []), (("d", 1, 1), [D1], []), (lines(4)[0], [A1], []),
                                     (lines(6)[0], [A1], [])])
        self.assertEqual(who(View(ring_store(), [])), [])

    def test_several(self):
        store = put_all([putting(A1), Patch(B2, [A1], [("keep", X)]), Patch(B1, [A1], [("keep", X)]), Patch(D1, [A1], [("cut", X)]),
                         Patch(C1, [A1], [("cut", X)]), Patch(E1, [B1], [("keep", X)])])
        self.assertEqual(who(View(store, [A1, B1, B2, C1, D1])), [(X, [B1, B2], [C1, D1])])
        self.assertEqual(who(View(store, store.names())), [(X, [B2, E1], [C1, D1])])

    def test_webs(self):
        for seed in range(40):
            store = line_web(seed, 9)
            view = View(store, store.names())
            plain = Plain([store.patch_of(name).told() for name in store.names()])
            due = []
            for line in told_row(view):
                marks = plain.last_marks(line)
                due.append((line, [name for name, mark in marks if mark == "keep"], [name for name, mark in marks if mark == "cut"]))
            self.assertEqual(who(view), due)
            who(view)[:1] and who(view)[0][1].clear()
            self.assertEqual(who(view), due)


class Changed(Case):

    def setUp(self):
        self.store = ring_store()
        for head, names in (("main", [A1]), ("side", [A1, B1, D1]), ("none", []), ("cuts", [A1, B1, C1]), ("same", [A1])):
            self.store.set_head(head, names)

    def test_changed(self):
        new = ("d", 1, 1)
        for head, other, due in (("main", "side", (lines(5, 7, 8), [new])), ("side", "main", ([new], lines(5, 7, 8))), ("main", "main", ([], [])),
                                 ("main", "same", ([], [])), ("none", "main", ([], lines(1, 2, 3, 4, 5, 6, 7, 8))),
                                 ("main", "none", (lines(1, 2, 3, 4, 5, 6, 7, 8), [])), ("none", "none", ([], [])),
                                 ("side", "cuts", ([lines(2)[0], new], [])), ("cuts", "side", ([], [lines(2)[0], new]))):
            self.assertEqual(changed(self.store, head, other), due)

    def test_refused(self):
        for thing in ANYTHING + EQUALS + ["absent"]:
            self.refused(OutOfPlace, {}, changed, self.store, thing, "main")
            self.refused(OutOfPlace, {}, changed, self.store, "main", thing)
            self.refused(OutOfPlace, {}, changed, self.store, thing, thing)

    def test_webs(self):
        for seed in range(40):
            store = line_web(seed, 9)
            names = store.names()
            for head, step in (("one", 3), ("two", 4)):
                store.set_head(head, store.closed_by(names[seed % step::step]))
            plains = [Plain([store.patch_of(name).told() for name in store.head_set(head)]) for head in ("one", "two")]
            rows = [plain.told_row() for plain in plains]
            self.assertEqual(changed(store, "one", "two"), ([line for line in rows[0] if line not in plains[1].told],
                                                            [line for line in rows[1] if line not in plains[0].told]))
            changed(store, "one", "two")[0].append("more")
            self.assertEqual(changed(store, "one", "two")[0], [line for line in rows[0] if line not in plains[1].told])
