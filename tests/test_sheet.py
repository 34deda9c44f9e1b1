"""[50], [51]: knots and the told row; and that all follows from the set of patches alone."""

from itertools import product
from unittest.mock import patch

from manyheads.errors import OutOfPlace
from manyheads.knowing import View
from manyheads.marks import state_of, told_lines
from manyheads.order import all_behind, is_ahead, way_ahead
from manyheads.patch import Patch
from manyheads.quarrels import quarrels
from manyheads.rings import loose_pairs, rings_of
from manyheads.sheet import knot_of, knots, sheet_texts, told_row
from manyheads.store import Store
from helpers import ANYTHING, EQUALS, Case, FOOT, HEAD, chances, put_all, putting
from plain import line_web, plain_of, ring_store

A1, A2, B1, C1, D1 = ("a", 1), ("a", 2), ("b", 1), ("c", 1), ("d", 1)
X, Y, Z = ("a", 1, 1), ("a", 1, 2), ("a", 1, 3)


def lines(*places):
    return [("a", 1, place) for place in places]


def told_of(view):
    """All that is told of a view's sheet, but new lists each time."""
    told = told_lines(view)
    return (knots(view), told_row(view), sheet_texts(view), quarrels(view), rings_of(view), loose_pairs(view),
            [(line, all_behind(view, line), knot_of(view, line)) for line in told],
            [way_ahead(view, HEAD, line) for line in told])


class Sheets(Case):

    def test_without_lines(self):
        for view in (View(Store(), []), View(put_all([Patch(A1, [], [])]), [A1])):
            self.assertEqual((knots(view), told_row(view), sheet_texts(view)), ([], [], []))

    def test_all_lines_gone(self):
        store = put_all([putting(A1, texts="xyz"), Patch(B1, [A1], [("cut", line) for line in (X, Y, Z)] + [("order", Z, X)])])
        view = View(store, store.names())
        self.assertEqual((knots(view), told_row(view), sheet_texts(view)), ([], [], []))
        for line in (X, HEAD):
            self.refused(OutOfPlace, {}, knot_of, view, line)

    def test_one_line(self):
        view = View(put_all([putting(A1, texts=("",))]), [A1])
        self.assertEqual((knots(view), told_row(view), sheet_texts(view)), ([[X]], [X], [""]))

    def test_rows_and_knots(self):
        store = ring_store()
        for names, told, row in (
                ([A1], [[line] for line in lines(*range(1, 9))], lines(*range(1, 9))),
                ([A1, B1], [lines(1, 2, 3), lines(4), lines(6)], lines(1, 2, 3, 4, 6)),
                ([A1, C1], [lines(1), lines(3), lines(4, 5, 6), lines(7, 8)], lines(1, 3, 4, 5, 6, 7, 8)),
                ([A1, D1], [lines(1), lines(2, 3) + [("d", 1, 1)]] + [[line] for line in lines(4, 5, 6, 7, 8)],
                 lines(1, 2, 3) + [("d", 1, 1)] + lines(4, 5, 6, 7, 8)),
                ([A1, B1, C1], [lines(1, 3), lines(4, 6)], lines(1, 3, 4, 6)),
                ([A1, B1, C1, D1], [lines(1, 2, 3), [("d", 1, 1)], lines(4, 6)], lines(1, 2, 3) + [("d", 1, 1)] + lines(4, 6))):
            view = View(store, names)
            self.assertEqual(knots(view), told)
            self.assertEqual(told_row(view), row)
            for knot in told:
                for line in knot:
                    self.assertEqual(knot_of(view, line), knot)

    def test_texts_stand_as_the_row(self):
        store = put_all([putting(B1, texts=("one", "two")), Patch(A1, [B1], [("put", ("b", 1, 1), ("b", 1, 2), ("new", ""))])])
        view = View(store, store.names())
        self.assertEqual(told_row(view), [("b", 1, 1), X, Y, ("b", 1, 2)])
        self.assertEqual(sheet_texts(view), ["one", "new", "", "two"])

    def test_the_least_comes_first_of_those_that_may(self):
        # b.1.2 lies ahead of a.2.1; of the others the least comes first.
        store = put_all([putting(B1, texts="xy"), putting(A1, texts="x")])
        store.put_patch(Patch(A2, [A1, B1], [("put", ("b", 1, 2), FOOT, ("z",))]))
        view = View(store, store.names())
        self.assertEqual(told_row(view), [X, ("b", 1, 1), ("b", 1, 2), ("a", 2, 1)])
        self.assertEqual(knots(view), [sorted([X, ("a", 2, 1), ("b", 1, 1), ("b", 1, 2)])])

    def test_lines_of_a_ring_that_stand_apart(self):
        # b.1.1 and b.1.3 make a ring with b.1.2 gone; b.2.1 is loose to them, and lies between them in the row.
        store = put_all([putting(B1, texts="xyz")])
        store.put_patch(Patch(C1, [B1], [("order", ("b", 1, 3), ("b", 1, 1)), ("cut", ("b", 1, 2))]))
        store.put_patch(putting(("b", 2)))
        store.put_patch(putting(("a", 9)))
        store.put_patch(Patch(D1, [B1], [("put", HEAD, FOOT, ("w",)), ("order", ("b", 1, 1), ("d", 1, 1))]))
        ring = [("b", 1, 1), ("b", 1, 3)]
        view = View(store, store.names())
        self.assertEqual(told_row(view), [("a", 9, 1), *ring, ("b", 2, 1), ("d", 1, 1)])
        self.assertEqual(knots(view), [told_row(view)])
        store.put_patch(putting(("c", 2), [B1], "u", HEAD, ("b", 1, 1)))
        store.put_patch(Patch(("e", 1), [B1], [("put", ("b", 1, 2), FOOT, ("v",)), ("order", ("e", 1, 1), ("b", 1, 1)),
                                               ("order", ("b", 1, 1), ("e", 1, 1))]))
        view = View(store, store.names())
        row = [("a", 9, 1), ("b", 2, 1), ("c", 2, 1), *ring, ("e", 1, 1), ("d", 1, 1)]
        self.assertEqual(told_row(view), row)
        store = put_all([putting(A1, texts="x"), putting(B1, texts="y"), putting(C1, texts="z")])
        store.put_patch(Patch(D1, [A1, C1], [("order", X, ("c", 1, 1)), ("order", ("c", 1, 1), X)]))
        view = View(store, store.names())
        self.assertEqual(told_row(view), [X, ("b", 1, 1), ("c", 1, 1)])
        self.assertEqual(knots(view), [told_row(view)])
        self.assertEqual(rings_of(view), [[X, ("c", 1, 1)]])

    def test_knots_lie_one_behind_the_other(self):
        apart = 0
        for seed in range(40):
            store = line_web(seed, 3 + seed % 6)
            view = View(store, store.names())
            plain = plain_of(view)
            told = knots(view)
            self.assertEqual(told, plain.knots())
            self.assertEqual(told_row(view), plain.told_row())
            self.assertEqual(sheet_texts(view), [plain.put[line] for line in plain.told_row()])
            self.assertEqual(sorted(line for knot in told for line in knot), plain.told)
            row = told_row(view)
            for at, knot in enumerate(told):
                for one, other in product(knot, [line for behind in told[at + 1:] for line in behind]):
                    self.assertTrue(is_ahead(view, one, other) and not is_ahead(view, other, one))
                self.assertEqual(sorted(row[:len(knot)]), knot)
                row = row[len(knot):]
            for ring in rings_of(view):
                places = [told_row(view).index(line) for line in ring if state_of(view, line) != "gone"]
                apart += bool(places) and max(places) - min(places) >= len(places)
        self.assertGreater(apart, 0)

    def test_what_is_no_told_line(self):
        view = View(ring_store(), [A1, B1])
        for thing in ANYTHING + EQUALS + [HEAD, FOOT, ("a", 1, 5), ("a", 1, 9), ("d", 1, 1), list(X), [X], A1, ("a", 1, True)]:
            self.refused(OutOfPlace, {}, knot_of, view, thing)

    def test_all_follows_from_the_set_alone(self):
        for seed in range(20):
            store = line_web(seed, 8)
            due = told_of(View(store, store.names()))
            some = chances(seed)
            left, again = store.names(), Store()
            grown = View(store, [])
            while left:
                free = [name for name in left if all(other in again.names() for other in store.patch_of(name).told()[1])]
                name = free[next(some) % len(free)]
                left.remove(name)
                again.put_patch(store.patch_of(name))
                grown.add_patch(name)
                # What is asked on the way must not stay as it was.
                told_of(grown)
                self.assertEqual(told_of(grown.copied()), told_of(grown))
            self.assertEqual(told_of(grown), due)
            self.assertEqual(told_of(View(again, again.names()[::-1])), due)

    def test_a_copy_goes_apart(self):
        view = View(ring_store(), [A1])
        before = told_of(view)
        other = view.copied()
        self.assertEqual(told_of(other), before)
        other.add_patch(B1)
        self.assertEqual(told_of(view), before)
        self.assertEqual(told_of(other), told_of(View(ring_store(), [A1, B1])))

    def test_what_is_told_is_the_askers_own(self):
        view = View(ring_store(), [A1, B1, C1, D1])
        due = told_of(View(ring_store(), [A1, B1, C1, D1]))
        for ask in (lambda: knots(view), lambda: told_row(view), lambda: sheet_texts(view), lambda: knot_of(view, X)):
            first = ask()
            for row in first:
                if isinstance(row, list):
                    row.reverse()
                    row.append("more")
            first.reverse()
            first.pop()
            self.assertEqual(told_of(view), due)

    def test_as_of_very_many_lines(self):
        # What is kept of few rings in one number is the same when it is kept in several.
        for seed in range(15):
            store = line_web(seed, 3 + seed % 5)
            plain = plain_of(View(store, store.names()))
            due = told_of(View(store, store.names()))
            for block in (1, 2, 3, 8):
                with patch("manyheads.reach.BLOCK", block), patch("manyheads.rings.BLOCK", block), \
                        patch("manyheads.sheet.BLOCK", block):
                    view = View(store, store.names())
                    self.assertEqual(told_of(view), due)
                    for one, other in product(plain.lines, plain.lines):
                        self.assertIs(is_ahead(view, one, other), (one, other) in plain.ahead)

    def test_very_many_lines(self):
        loose = put_all([Patch(A1, [], [("put", HEAD, FOOT, ("x",) * 20)] * 300)])
        view = View(loose, [A1])
        self.assertEqual(told_row(view), lines(*range(1, 6001)))
        self.assertEqual(knots(view), [lines(*range(1, 6001))])
        chain = put_all([Patch(A1, [], [("put", HEAD, FOOT, ("x",) * 200)] + [
            ("put", ("a", 1, 200 * many), FOOT, ("x",) * 200) for many in range(1, 30)])])
        # The one more line is loose to those of six blocks side by side.
        chain.put_patch(putting(B1, [A1], "y", ("a", 1, 100), ("a", 1, 5000)))
        view = View(chain, chain.names())
        told = knots(view)
        self.assertEqual(told, [[line] for line in lines(*range(1, 101))] + [lines(*range(101, 5000)) + [("b", 1, 1)]]
                         + [[line] for line in lines(*range(5000, 6001))])
