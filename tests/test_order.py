"""[40], [41]: what is ahead of what, and by what ways."""

from itertools import product

from manyheads.errors import OutOfPlace
from manyheads.knowing import View
from manyheads.marks import all_lines
from manyheads.order import all_behind, bound_behind, is_ahead, no_way, way_ahead
from manyheads.patch import Patch
from manyheads.store import Store
from helpers import ANYTHING, EQUALS, Case, FOOT, HEAD, put_all, putting
from plain import line_web, plain_of, ring_store

A1, B1, C1, D1 = ("a", 1), ("b", 1), ("c", 1), ("d", 1)
X, Y, Z = ("a", 1, 1), ("a", 1, 2), ("a", 1, 3)


class Order(Case):

    def setUp(self):
        # x, y, z in a row; b.1 cuts y; c.1 puts p and q beside y; d.1 puts r without a word of the others.
        store = put_all([
            putting(A1, texts=("x", "y", "z")),
            Patch(B1, [A1], [("cut", Y), ("put", Y, FOOT, ("o",))]),
            Patch(C1, [A1], [("put", X, Z, ("p", "q"))]),
            putting(D1, texts=("r",)),
        ])
        self.view = View(store, store.names())
        self.o, self.p, self.q, self.r = ("b", 1, 1), ("c", 1, 1), ("c", 1, 2), ("d", 1, 1)

    def test_empty_view(self):
        view = View(Store(), [])
        self.assertEqual(bound_behind(view, HEAD), [FOOT])
        self.assertEqual(bound_behind(view, FOOT), [])
        self.assertEqual(all_behind(view, HEAD), [FOOT])
        self.assertEqual(way_ahead(view, HEAD, FOOT), [HEAD, FOOT])
        self.assertIs(is_ahead(view, HEAD, FOOT), True)
        self.assertIs(is_ahead(view, FOOT, HEAD), False)
        self.assertEqual(no_way(view, FOOT, HEAD), [FOOT])
        self.assertIsNone(no_way(view, HEAD, FOOT))
        self.assertIsNone(way_ahead(view, FOOT, HEAD))

    def test_bound_behind(self):
        for line, behind in ((HEAD, [FOOT, X, self.r]), (X, [Y, self.p]), (Y, [Z, self.o]), (Z, [FOOT]),
                             (self.o, [FOOT]), (self.p, [self.q]), (self.q, [Z]), (self.r, [FOOT]), (FOOT, [])):
            self.assertEqual(bound_behind(self.view, line), behind)

    def test_bound_twice_is_told_once(self):
        store = put_all([putting(A1, texts=("x", "y")), Patch(B1, [A1], [("order", X, Y), ("order", X, Y)]),
                         Patch(C1, [A1], [("order", X, Y)])])
        self.assertEqual(bound_behind(View(store, store.names()), X), [Y])

    def test_ahead(self):
        self.assertEqual(all_behind(self.view, X), [FOOT, Y, Z, self.o, self.p, self.q])
        self.assertEqual(all_behind(self.view, Y), [FOOT, Z, self.o])
        self.assertEqual(all_behind(self.view, HEAD), [FOOT, X, Y, Z, self.o, self.p, self.q, self.r])
        self.assertEqual(all_behind(self.view, FOOT), [])
        for one, other, ahead in ((X, Z, True), (X, self.o, True), (Z, X, False), (self.p, Y, False), (Y, self.p, False),
                                  (self.r, X, False), (HEAD, self.r, True), (self.r, FOOT, True), (X, X, False),
                                  (HEAD, HEAD, False), (FOOT, FOOT, False), (X, HEAD, False), (FOOT, X, False)):
            self.assertIs(is_ahead(self.view, one, other), ahead)

    def test_ways(self):
        for one, other, way in ((X, Y, [X, Y]), (X, Z, [X, Y, Z]), (self.p, Z, [self.p, self.q, Z]), (HEAD, FOOT, [HEAD, FOOT]),
                                (HEAD, self.q, [HEAD, X, self.p, self.q]), (X, FOOT, [X, Y, Z, FOOT]), (Z, X, None),
                                (X, X, None), (HEAD, HEAD, None)):
            self.assertEqual(way_ahead(self.view, one, other), way)

    def test_of_several_ways_the_least(self):
        # From head to m: by b, then c, or by a, then d; from the least first step the way isn't the shortest.
        lines = {"a": ("a", 1, 1), "b": ("a", 2, 1), "c": ("a", 3, 1), "d": ("a", 4, 1), "m": ("a", 5, 1)}
        store = put_all([putting(("a", number), texts=("x",)) for number in range(1, 6)])
        store.put_patch(Patch(B1, store.names(), [
            ("order", lines[one], lines[other]) for one, other in ("ad", "dc", "bc", "bd", "cm", "dm")]))
        view = View(store, store.names())
        self.assertEqual(way_ahead(view, lines["a"], lines["m"]), [lines[one] for one in "adm"])
        self.assertEqual(way_ahead(view, lines["b"], lines["m"]), [lines[one] for one in "bcm"])
        self.assertEqual(way_ahead(view, lines["a"], lines["c"]), [lines[one] for one in "adc"])

    def test_lines_ahead_of_themselves(self):
        view = View(ring_store(), [A1, B1, C1, D1])
        line = [None] + [("a", 1, place) for place in range(1, 9)]
        for place, way in ((1, [1, 2, 3, 1]), (2, [2, 3, 1, 2]), (4, [4, 5, 6, 4]), (5, [5, 6, 4, 5]), (7, [7, 8, 7])):
            self.assertIs(is_ahead(view, line[place], line[place]), True)
            self.assertEqual(way_ahead(view, line[place], line[place]), [line[at] for at in way])
            self.assertIn(line[place], all_behind(view, line[place]))
            self.assertIsNone(no_way(view, line[place], line[place]))
        self.assertIs(is_ahead(view, ("d", 1, 1), ("d", 1, 1)), False)
        self.assertEqual(no_way(view, line[4], line[3]), [FOOT] + line[4:])

    def test_the_shortest_way_back(self):
        # Two rings through x: the longer one by the lesser line.
        store = put_all([putting(A1, texts=("x", "y", "z"))])
        store.put_patch(Patch(B1, [A1], [("order", Z, X), ("put", X, FOOT, ("w",)), ("order", ("b", 1, 1), X)]))
        view = View(store, store.names())
        self.assertEqual(way_ahead(view, X, X), [X, ("b", 1, 1), X])
        self.assertEqual(way_ahead(view, Y, Y), [Y, Z, X, Y])

    def test_no_way(self):
        for one, other, lines in ((Z, X, [FOOT, Z]), (Y, self.p, [FOOT, Y, Z, self.o]), (X, HEAD, [
                FOOT, X, Y, Z, self.o, self.p, self.q]), (self.r, X, [FOOT, self.r]), (FOOT, self.r, [FOOT])):
            self.assertEqual(no_way(self.view, one, other), lines)
        for line in all_lines(self.view):
            self.refused(OutOfPlace, {}, no_way, self.view, line, line)

    def test_a_no_way_shows_that_there_is_none(self):
        for seed in range(25):
            store = line_web(seed)
            view = View(store, store.names())
            for one, other in product(all_lines(view), all_lines(view)):
                lines = None if one == other else no_way(view, one, other)
                if lines is not None:
                    self.assertIn(one, lines)
                    self.assertNotIn(other, lines)
                    for line in lines:
                        self.assertLessEqual(set(bound_behind(view, line)), set(lines))

    def test_lines_that_are_not_there(self):
        for thing in ANYTHING + EQUALS + [("a", 1, 4), ("z", 1, 1), list(X), list(HEAD), [X], A1, ("a", 1, 10 ** 30)]:
            for ask in (bound_behind, all_behind):
                self.refused(OutOfPlace, {}, ask, self.view, thing)
            for ask in (is_ahead, way_ahead, no_way):
                self.refused(OutOfPlace, {}, ask, self.view, thing, X)
                self.refused(OutOfPlace, {}, ask, self.view, X, thing)
                self.refused(OutOfPlace, {}, ask, self.view, thing, thing)
        self.refused(OutOfPlace, {}, is_ahead, View(Store(), []), HEAD, X)

    def test_lines_of_patches_that_are_not_in_the_view(self):
        store = ring_store()
        view = View(store, [A1])
        self.refused(OutOfPlace, {}, is_ahead, view, ("d", 1, 1), X)
        self.assertIs(is_ahead(view, Z, X), False)
        view.add_patch(B1)
        self.assertIs(is_ahead(view, Z, X), True)
        self.refused(OutOfPlace, {}, bound_behind, view, ("d", 1, 1))
        view.add_patch(D1)
        self.assertEqual(bound_behind(view, ("d", 1, 1)), [("a", 1, 4)])

    def test_webs(self):
        for seed in range(25):
            store = line_web(seed, 3 + seed % 5)
            view = View(store, store.names())
            plain = plain_of(view)
            for one in plain.lines:
                self.assertEqual(bound_behind(view, one), sorted(two for first, two in plain.bound if first == one))
                self.assertEqual(all_behind(view, one), sorted(two for first, two in plain.ahead if first == one))
                for other in plain.lines:
                    self.assertIs(is_ahead(view, one, other), (one, other) in plain.ahead)
                    self.assertEqual(way_ahead(view, one, other), plain.shortest_way(one, other))

    def test_very_many_lines(self):
        store = put_all([putting(A1, texts="x" * 200)])
        for number in range(2, 31):
            store.put_patch(putting(("a", number), [("a", number - 1)], "x" * 200, ("a", number - 1, 200)))
        view = View(store, store.names())
        self.assertIs(is_ahead(view, X, ("a", 30, 200)), True)
        self.assertIs(is_ahead(view, ("a", 30, 200), X), False)
        self.assertIs(is_ahead(view, ("a", 9, 7), ("a", 9, 8)), True)
        self.assertEqual(len(way_ahead(view, HEAD, ("a", 30, 200))), 6001)
        self.assertEqual(len(all_behind(view, ("a", 2, 1))), 5800)

    def test_what_is_told_is_the_askers_own(self):
        asks = [lambda: bound_behind(self.view, X), lambda: all_behind(self.view, X), lambda: way_ahead(self.view, X, Z),
                lambda: no_way(self.view, Y, X)]
        for ask in asks:
            first = ask()
            kept = list(first)
            first.reverse()
            first.append("more")
            self.assertEqual(ask(), kept)
