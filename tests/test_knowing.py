"""[30], [31]: views, and what knows what in them."""

from itertools import product

from manyheads.errors import NotClosed, OutOfPlace
from manyheads.knowing import View, known_by, knowing_way, knows_it
from manyheads.marks import all_lines, state_of
from manyheads.patch import Patch
from manyheads.store import Store
from helpers import ANYTHING, EQUALS, Case, all_known, ladder, put_all, putting, web

A1, A2, A3, B1, B2, C1, D1 = ("a", 1), ("a", 2), ("a", 3), ("b", 1), ("b", 2), ("c", 1), ("d", 1)
ABSENT = ("z", 9)
WEB = [(A1, []), (D1, []), (B1, [A1]), (B2, [A1]), (A2, [B1]), (C1, [A2, B2]), (A3, [C1])]
CLOSED = [A1, A2, B1, B2, C1]


def ways_between(made, one, other):
    """All knowing ways of a web from one to another, of two names or more."""
    ways = []
    for known in made[one]:
        if known == other:
            ways.append([one, other])
        ways += [[one] + way for way in ways_between(made, known, other)]
    return ways


class Views(Case):

    def setUp(self):
        self.store = put_all([putting(name, knows) for name, knows in WEB])
        self.view = View(self.store, CLOSED)

    def told(self, view):
        return (view.names(), [view.patch_of(name).told() for name in view.names()],
                [known_by(view, name) for name in view.names()], all_lines(view),
                [state_of(view, line) for line in all_lines(view)])

    def test_names(self):
        self.assertEqual(self.view.names(), CLOSED)
        self.assertEqual(View(self.store, CLOSED[::-1] + CLOSED).names(), CLOSED)
        self.assertEqual(View(self.store, []).names(), [])
        self.assertEqual(View(Store(), []).names(), [])
        for name, knows in WEB:
            if name in CLOSED:
                self.assertEqual(self.view.patch_of(name).told(), putting(name, knows).told())

    def test_refused(self):
        for thing in ANYTHING + EQUALS + [self.view, Store, {}]:
            self.refused(OutOfPlace, {}, View, thing, [])
            self.refused(OutOfPlace, {}, View, thing, [B1])
        for names in [thing for thing in ANYTHING if thing != []] + [[thing] for thing in EQUALS] + [
                (A1,), [ABSENT], [A1, ABSENT], [B1, ABSENT], A1, {A1: True}, [A1, None], [list(A1)]]:
            self.refused(OutOfPlace, {}, View, self.store, names)
        for names, lacking in (([B1], [A1]), ([A3, D1], [A1, A2, B1, B2, C1]), ([A1, A3, B2, A3], [A2, B1, C1])):
            self.refused(NotClosed, {"lacking": lacking}, View, self.store, names)

    def test_patch_of_anything(self):
        for thing in ANYTHING + EQUALS + [ABSENT, A3, D1, list(A1), [A1]]:
            self.refused(OutOfPlace, {}, self.view.patch_of, thing)

    def test_add_patch(self):
        view = View(self.store, [])
        for name in (D1, A1, B1, B2, A2, C1, A3):
            self.assertIs(view.add_patch(name), True)
            self.assertIs(view.add_patch(name), False)
        self.assertEqual(self.told(view), self.told(View(self.store, view.names())))
        self.assertEqual(view.names(), self.store.names())

    def test_add_patch_refused(self):
        view = View(self.store, [A1, B2])
        before = self.told(view)
        for thing in ANYTHING + EQUALS + [ABSENT, list(B1), [B1]]:
            self.refused(OutOfPlace, {}, view.add_patch, thing)
        for name, lacking in ((A2, [B1]), (C1, [A2, B1]), (A3, [A2, B1, C1])):
            self.refused(NotClosed, {"lacking": lacking}, view.add_patch, name)
        for name, lacking in ((B1, [A1]), (A2, [A1, B1])):
            self.refused(NotClosed, {"lacking": lacking}, View(self.store, []).add_patch, name)
        self.store.put_patch(putting(("n", 1)))
        self.refused(OutOfPlace, {}, view.add_patch, ("n", 1))
        self.assertEqual(self.told(view), before)

    def test_a_view_keeps_what_the_store_held(self):
        before = self.told(self.view)
        self.store.put_patch(putting(("n", 1), [C1]))
        self.store.sweep([])
        self.assertEqual(self.store.names(), [])
        self.store.put_patch(putting(B1, [], ["other", "lines"]))
        self.assertEqual(self.told(self.view), before)
        self.assertIs(self.view.add_patch(D1), True)
        self.assertIs(self.view.add_patch(A3), True)
        self.assertEqual(known_by(self.view, A3), CLOSED)
        self.assertEqual(self.view.patch_of(A3).told(), putting(A3, [C1]).told())
        self.refused(OutOfPlace, {}, self.view.add_patch, ("n", 1))

    def test_a_view_changes_no_store(self):
        self.view.add_patch(A3)
        self.assertEqual(self.store.names(), [A1, A2, A3, B1, B2, C1, D1])
        self.assertEqual(self.store.heads(), [])

    def test_copied(self):
        other = self.view.copied()
        self.assertIsInstance(other, View)
        before = self.told(self.view)
        self.assertEqual(self.told(other), before)
        self.store.sweep([])
        self.assertIs(other.add_patch(D1), True)
        self.assertEqual(self.told(self.view), before)
        kept = self.told(other)
        self.assertIs(self.view.add_patch(A3), True)
        self.assertEqual(self.told(other), kept)
        self.assertEqual(other.names(), CLOSED + [D1])
        self.assertIs(other.copied().add_patch(A3), True)
        self.assertEqual(self.told(other), kept)

    def test_marks_of_copied_views_go_apart(self):
        line = ("a", 1, 1)
        store = put_all([putting(A1), Patch(B1, [A1], [("cut", line)]), Patch(C1, [B1], [("keep", line)])])
        one = View(store, [A1])
        other = one.copied()
        other.add_patch(B1)
        third = other.copied()
        third.add_patch(C1)
        self.assertEqual([state_of(view, ("a", 1, 1)) for view in (one, other, third)], ["stands", "gone", "stands"])

    def test_what_is_handed_in_and_told_is_not_kept(self):
        names = [B1, A1, A1]
        view = View(self.store, names)
        self.assertEqual(names, [B1, A1, A1])
        names.append(D1)
        told = view.names()
        self.assertEqual(told, [A1, B1])
        told.clear()
        known_by(view, B1).clear()
        view.patch_of(B1).told()[1].clear()
        self.assertEqual(self.told(view), self.told(View(self.store, [A1, B1])))
        told = view.names()
        view.add_patch(D1)
        self.assertEqual(told, [A1, B1])


class Knowing(Case):

    def setUp(self):
        self.store = put_all([putting(name, knows) for name, knows in WEB])
        self.view = View(self.store, CLOSED)

    def test_known_by(self):
        for name, known in ((A1, []), (B1, [A1]), (A2, [A1, B1]), (B2, [A1]), (C1, [A1, A2, B1, B2])):
            self.assertEqual(known_by(self.view, name), known)

    def test_knows_it(self):
        for one, other in product(CLOSED, CLOSED):
            self.assertIs(knows_it(self.view, one, other), other in known_by(self.view, one))
        self.assertIs(knows_it(self.view, C1, A1), True)
        self.assertIs(knows_it(self.view, A1, C1), False)
        self.assertIs(knows_it(self.view, C1, C1), False)

    def test_knowing_way(self):
        for one, other, way in ((B1, A1, [B1, A1]), (A2, A1, [A2, B1, A1]), (C1, A1, [C1, B2, A1]),
                                (C1, B1, [C1, A2, B1]), (A1, A1, None), (A1, B1, None), (B1, B2, None)):
            self.assertEqual(knowing_way(self.view, one, other), way)

    def test_of_several_ways_the_least(self):
        made = {("a", 1): [], ("b", 1): [("a", 1)], ("b", 2): [("a", 1)], ("a", 9): [("b", 2)], ("c", 1): [("b", 1)],
                ("c", 2): [("b", 1), ("b", 2)], ("c", 10): [("b", 1)], ("d", 1): [("c", 2), ("c", 10)],
                ("d", 2): [("a", 9), ("c", 1)], ("e", 1): [("d", 1), ("d", 2)]}
        store = put_all([putting(name, knows) for name, knows in made.items()])
        view = View(store, store.names())
        self.assertEqual(knowing_way(view, ("e", 1), ("a", 1)), [("e", 1), ("d", 1), ("c", 2), ("b", 1), ("a", 1)])
        self.assertEqual(knowing_way(view, ("d", 2), ("a", 1)), [("d", 2), ("a", 9), ("b", 2), ("a", 1)])

    def test_refused(self):
        for thing in ANYTHING + EQUALS + [ABSENT, A3, D1, list(A1), [A1]]:
            self.refused(OutOfPlace, {}, known_by, self.view, thing)
            for act in (knows_it, knowing_way):
                self.refused(OutOfPlace, {}, act, self.view, thing, A1)
                self.refused(OutOfPlace, {}, act, self.view, C1, thing)
                self.refused(OutOfPlace, {}, act, self.view, thing, thing)

    def test_webs(self):
        for seed in range(12):
            made = web(seed, 16)
            store = put_all([putting(name, knows) for name, knows in made.items()])
            view = View(store, store.names())
            for one, other in product(made, made):
                ways = ways_between(made, one, other)
                self.assertIs(knows_it(view, one, other), bool(ways))
                least = min(ways, key=lambda way: (len(way), way), default=None)
                self.assertEqual(knowing_way(view, one, other), least)
                self.assertEqual(known_by(view, one), sorted(all_known(made, [one])))

    def test_many_ways(self):
        store = ladder(300)
        view = View(store, store.names())
        self.assertEqual(knowing_way(view, ("b", 300), ("b", 1)),
                         [("b", 300)] + [("a", level) for level in range(299, 1, -1)] + [("b", 1)])
        self.assertEqual(len(known_by(view, ("a", 300))), 598)

    def test_what_is_told_is_the_askers_own(self):
        knowing_way(self.view, C1, A1).clear()
        known_by(self.view, C1).clear()
        self.assertEqual(knowing_way(self.view, C1, A1), [C1, B2, A1])
        self.assertEqual(known_by(self.view, C1), [A1, A2, B1, B2])
