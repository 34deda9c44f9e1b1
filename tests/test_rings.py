"""[42], [43]: rings, and lines that are loose."""

from manyheads.errors import OutOfPlace
from manyheads.knowing import View
from manyheads.patch import Patch
from manyheads.rings import loose_pairs, ring_of, rings_of
from manyheads.store import Store
from helpers import ANYTHING, EQUALS, Case, FOOT, HEAD, put_all, putting
from plain import line_web, plain_of, ring_store

A1, B1, C1, D1 = ("a", 1), ("b", 1), ("c", 1), ("d", 1)
X, Y, Z = ("a", 1, 1), ("a", 1, 2), ("a", 1, 3)


def lines(*places):
    return [("a", 1, place) for place in places]


class Rings(Case):

    def setUp(self):
        self.view = View(ring_store(), [A1, B1, C1, D1])

    def test_ring_of(self):
        for ring in (lines(1, 2, 3), lines(4, 5, 6), lines(7, 8)):
            for line in ring:
                self.assertEqual(ring_of(self.view, line), ring)
        for line in (HEAD, FOOT, ("d", 1, 1)):
            self.assertEqual(ring_of(self.view, line), [line])

    def test_rings_of(self):
        self.assertEqual(rings_of(self.view), [lines(1, 2, 3), lines(4, 5, 6), lines(7, 8)])
        self.assertEqual(rings_of(View(ring_store(), [A1, B1])), [lines(1, 2, 3)])
        self.assertEqual(rings_of(View(ring_store(), [A1, C1])), [lines(4, 5, 6), lines(7, 8)])
        self.assertEqual(rings_of(View(ring_store(), [A1, D1])), [])
        self.assertEqual(rings_of(View(Store(), [])), [])

    def test_rings_by_their_first_ones(self):
        # The ring with the first line of all lies behind the other one.
        store = put_all([putting(A1, texts="xy"), putting(B1, texts="xy")])
        store.put_patch(Patch(C1, [A1, B1], [("order", Y, X), ("order", ("b", 1, 2), ("b", 1, 1)), ("order", ("b", 1, 2), X)]))
        self.assertEqual(rings_of(View(store, store.names())), [[X, Y], [("b", 1, 1), ("b", 1, 2)]])

    def test_a_ring_of_many_hands_orders(self):
        # Each hand orders two lines that are loose for it; together they make a ring.
        store = put_all([putting((hand, 1)) for hand in "abc"])
        three = [(hand, 1, 1) for hand in "abc"]
        for at in range(3):
            store.put_patch(Patch(("d", at + 1), [A1, B1, C1], [("order", three[at], three[(at + 1) % 3])]))
        self.assertEqual(rings_of(View(store, store.names())), [three])
        self.assertEqual(rings_of(View(store, store.names()[:-1])), [])
        self.assertEqual(loose_pairs(View(store, store.names()[:-1])), [])
        self.assertEqual(loose_pairs(View(store, store.names()[:-2])), [(three[0], three[2]), (three[1], three[2])])

    def test_loose_pairs(self):
        self.assertEqual(loose_pairs(View(Store(), [])), [])
        self.assertEqual(loose_pairs(View(ring_store(), [A1])), [])
        self.assertEqual(loose_pairs(View(ring_store(), [A1, D1])), [(Y, ("d", 1, 1)), (Z, ("d", 1, 1))])
        # The new line lies behind the first one, and by the ring behind the third one.
        self.assertEqual(loose_pairs(self.view), [])
        store = put_all([putting((hand, 1), texts="xy"[:many]) for hand, many in (("a", 1), ("b", 2), ("c", 1))])
        self.assertEqual(loose_pairs(View(store, store.names())), [
            (X, ("b", 1, 1)), (X, ("b", 1, 2)), (X, ("c", 1, 1)), (("b", 1, 1), ("c", 1, 1)), (("b", 1, 2), ("c", 1, 1))])

    def test_gone_lines_are_not_loose_but_bind(self):
        store = put_all([putting(A1, texts="xyz"), putting(B1)])
        store.put_patch(Patch(C1, [A1, B1], [("cut", Y)]))
        self.assertEqual(loose_pairs(View(store, store.names())), [(X, ("b", 1, 1)), (Z, ("b", 1, 1))])
        store.put_patch(Patch(D1, [A1], [("keep", Y)]))
        self.assertEqual(len(loose_pairs(View(store, store.names()))), 3)

    def test_lines_that_are_not_there(self):
        for thing in ANYTHING + EQUALS + [("a", 1, 9), ("z", 1, 1), list(X), [X], A1]:
            self.refused(OutOfPlace, {}, ring_of, self.view, thing)

    def test_webs(self):
        rings = 0
        for seed in range(60, 100):
            store = line_web(seed, 3 + seed % 5)
            view = View(store, store.names())
            plain = plain_of(view)
            for line in plain.lines:
                self.assertEqual(ring_of(view, line), plain.ring(line))
            found = sorted({tuple(plain.ring(line)) for line in plain.lines})
            self.assertEqual(rings_of(view), [list(ring) for ring in found if len(ring) > 1])
            pairs = [(one, other) for one in plain.told for other in plain.told if one < other and plain.loose(one, other)]
            self.assertEqual(loose_pairs(view), pairs)
            rings += len(rings_of(view))
        self.assertGreater(rings, 10)

    def test_a_ring_of_very_many_lines(self):
        store = put_all([Patch(A1, [], [("put", HEAD, FOOT, ("x",) * 200)] + [
            ("put", ("a", 1, 200 * many), FOOT, ("x",) * 200) for many in range(1, 30)])])
        store.put_patch(Patch(B1, [A1], [("order", ("a", 1, 5999), X)]))
        view = View(store, store.names())
        self.assertEqual(rings_of(view), [lines(*range(1, 6000))])
        self.assertEqual(loose_pairs(view), [])

    def test_many_loose_pairs(self):
        store = put_all([Patch(A1, [], [("put", HEAD, FOOT, ("x",))] * 100)])
        pairs = loose_pairs(View(store, [A1]))
        self.assertEqual(pairs, [(one, other) for one in lines(*range(1, 101)) for other in lines(*range(one[2] + 1, 101))])

    def test_what_is_told_is_the_askers_own(self):
        view = View(ring_store(), [A1, B1, D1])
        for ask in (lambda: rings_of(view), lambda: ring_of(view, X), lambda: loose_pairs(view)):
            first = ask()
            kept = [list(row) if isinstance(row, list) else row for row in first]
            for row in first:
                if isinstance(row, list):
                    row.clear()
            first.append("more")
            self.assertEqual(ask(), kept)
