"""[32], [33]: the lines of a view, their marks and states."""

from manyheads.errors import OutOfPlace
from manyheads.knowing import View
from manyheads.marks import all_lines, last_marks, marks_of, state_of, text_of, told_lines
from manyheads.patch import Patch
from helpers import ANYTHING, EQUALS, Case, FOOT, HEAD, all_known, chances, put_all, putting, web

A1, A2, A3, B1, B2, C1, D1 = ("a", 1), ("a", 2), ("a", 3), ("b", 1), ("b", 2), ("c", 1), ("d", 1)
ONE, TWO, THREE = ("a", 1, 1), ("a", 1, 2), ("a", 1, 3)


def marking(name, knows, *marks):
    """A patch that cuts and keeps."""
    return Patch(name, knows, list(marks))


class Marks(Case):

    def setUp(self):
        self.store = put_all([
            putting(A1, texts=("one", "", "three")),
            marking(B1, [A1], ("cut", ONE), ("keep", TWO)),
            marking(B2, [A1], ("keep", ONE), ("cut", TWO), ("cut", THREE)),
            marking(A2, [B1], ("keep", ONE), ("cut", ONE), ("cut", THREE)),
            marking(C1, [A2, B2], ("cut", THREE), ("keep", ONE), ("keep", THREE)),
            Patch(D1, [A1], [("put", HEAD, ONE, ("four", "five")), ("cut", ("d", 1, 2)), ("order", ONE, TWO)]),
        ])

    def view(self, *names):
        return View(self.store, list(names))

    def test_all_lines(self):
        self.assertEqual(all_lines(self.view()), [HEAD, FOOT])
        self.assertEqual(all_lines(self.view(A1, B1)), [HEAD, FOOT, ONE, TWO, THREE])
        self.assertEqual(all_lines(self.view(D1, A1)), [HEAD, FOOT, ONE, TWO, THREE, ("d", 1, 1), ("d", 1, 2)])

    def test_all_lines_rise(self):
        store = put_all([putting(("b", 10), texts="x" * 11), putting(("b", 9)), putting(("ab", 500))])
        self.assertEqual(all_lines(View(store, store.names())),
                         [HEAD, FOOT, ("ab", 500, 1), ("b", 9, 1)] + [("b", 10, place) for place in range(1, 12)])
        self.assertEqual(told_lines(View(store, store.names())), all_lines(View(store, store.names()))[2:])

    def test_text_of(self):
        view = self.view(A1, D1)
        self.assertEqual([text_of(view, line) for line in all_lines(view)],
                         [None, None, "one", "", "three", "four", "five"])

    def test_marks_of(self):
        view = self.view(A1, A2, B1, B2, C1)
        self.assertEqual(marks_of(view, ONE), [(A1, "keep"), (A2, "cut"), (B1, "cut"), (B2, "keep"), (C1, "keep")])
        self.assertEqual(marks_of(view, TWO), [(A1, "keep"), (B1, "keep"), (B2, "cut")])
        self.assertEqual(marks_of(view, THREE), [(A1, "keep"), (A2, "cut"), (B2, "cut"), (C1, "keep")])
        self.assertEqual(marks_of(self.view(A1), ONE), [(A1, "keep")])
        self.assertEqual(marks_of(self.view(A1, D1), ("d", 1, 2)), [(D1, "cut")])
        for end in (HEAD, FOOT):
            self.assertEqual(marks_of(view, end), [])
            self.assertEqual(last_marks(view, end), [])

    def test_last_marks(self):
        view = self.view(A1, A2, B1, B2, C1)
        self.assertEqual(last_marks(view, ONE), [(C1, "keep")])
        self.assertEqual(last_marks(view, TWO), [(B1, "keep"), (B2, "cut")])
        self.assertEqual(last_marks(view, THREE), [(C1, "keep")])
        view = self.view(A1, A2, B1, B2)
        self.assertEqual(last_marks(view, ONE), [(A2, "cut"), (B2, "keep")])
        self.assertEqual(last_marks(view, THREE), [(A2, "cut"), (B2, "cut")])
        self.assertEqual(last_marks(self.view(A1, B2), THREE), [(B2, "cut")])
        self.assertEqual(last_marks(self.view(A1), ONE), [(A1, "keep")])
        self.assertEqual(last_marks(self.view(A1, D1), ("d", 1, 2)), [(D1, "cut")])

    def test_known_through_patches_without_a_mark(self):
        store = put_all([putting(A1), marking(B1, [A1]), marking(B2, [B1]), marking(C1, [B2], ("cut", ONE))])
        view = View(store, store.names())
        self.assertEqual(last_marks(view, ONE), [(C1, "cut")])
        self.assertEqual(state_of(view, ONE), "gone")

    def test_states(self):
        for names, states in (
                ([A1], ["stands", "stands", "stands"]), ([A1, B1], ["gone", "stands", "stands"]),
                ([A1, B2], ["stands", "gone", "gone"]), ([A1, B1, B2], ["torn", "torn", "gone"]),
                ([A1, A2, B1], ["gone", "stands", "gone"]), ([A1, A2, B1, B2], ["torn", "torn", "gone"]),
                ([A1, A2, B1, B2, C1], ["stands", "torn", "stands"])):
            view = self.view(*names)
            self.assertEqual([state_of(view, line) for line in (ONE, TWO, THREE)], states)
            self.assertEqual([state_of(view, end) for end in (HEAD, FOOT)], ["stands", "stands"])
            told = [line for line, state in zip((ONE, TWO, THREE), states) if state != "gone"]
            self.assertEqual(told_lines(view), told)
        self.assertEqual(told_lines(self.view()), [])
        view = self.view(A1, D1)
        self.assertEqual(state_of(view, ("d", 1, 2)), "gone")
        self.assertEqual(told_lines(view), [ONE, TWO, THREE, ("d", 1, 1)])

    def test_states_as_a_view_grows(self):
        view = self.view()
        states = []
        for name in (A1, B1, A2, B2, C1):
            view.add_patch(name)
            states.append((state_of(view, ONE), marks_of(view, ONE)[-1]))
        self.assertEqual(states, [("stands", (A1, "keep")), ("gone", (B1, "cut")), ("gone", (B1, "cut")),
                                  ("torn", (B2, "keep")), ("stands", (C1, "keep"))])

    def test_lines_that_are_not_there(self):
        view = self.view(A1, B1)
        for thing in ANYTHING + EQUALS + [("a", 1, 4), ("d", 1, 1), ("b", 1, 1), ("z", 9, 1), list(ONE), list(HEAD),
                                          [ONE], ("a", 1), ("a", 1, 10 ** 30)]:
            for ask in (text_of, marks_of, last_marks, state_of):
                self.refused(OutOfPlace, {}, ask, view, thing)
        self.refused(OutOfPlace, {}, state_of, self.view(), ONE)

    def test_webs(self):
        for seed in range(20):
            made = web(seed, 20)
            some = chances(seed + 500)
            lines, patches, marks = [("a", 40, k) for k in range(1, 9)], [putting(("a", 40), texts="x" * 8)], {}
            for name, knows in made.items():
                marks[name] = {lines[next(some) % 8]: ("cut", "keep")[next(some) % 2] for _ in range(next(some) % 5)}
                deeds = [(mark, line) for line, mark in marks[name].items()]
                patches.append(Patch(name, sorted(knows + [("a", 40)]), deeds))
            store = put_all(patches)
            view = View(store, store.names())
            for line in lines:
                due = [(("a", 40), "keep")] + [(name, marks[name][line]) for name in made if line in marks[name]]
                known = all_known(made, [name for name, _ in due[1:]]) | ({("a", 40)} if due[1:] else set())
                last = sorted(row for row in due if row[0] not in known)
                self.assertEqual(marks_of(view, line), sorted(due))
                self.assertEqual(last_marks(view, line), last)
                words = {mark for _, mark in last}
                self.assertEqual(state_of(view, line),
                                 "stands" if words == {"keep"} else "gone" if words == {"cut"} else "torn")

    def test_what_is_told_is_the_askers_own(self):
        view = self.view(A1, B1, B2)
        for ask in (lambda: all_lines(view), lambda: told_lines(view), lambda: marks_of(view, ONE),
                    lambda: last_marks(view, ONE)):
            first = ask()
            kept = list(first)
            first.append("more")
            first.reverse()
            self.assertEqual(ask(), kept)
        told = marks_of(view, ONE)
        kept = list(told)
        view.add_patch(A2)
        self.assertEqual(told, kept)
