"""[52], [53]: quarrels, and what settles them."""

from manyheads.errors import OutOfPlace
from manyheads.knowing import View
from manyheads.marks import last_marks, state_of
from manyheads.order import is_ahead
from manyheads.patch import Patch
from manyheads.quarrels import is_plain, quarrels, ways_to_settle
from manyheads.rings import ring_of
from manyheads.store import Store
from helpers import ANYTHING, EQUALS, Case, HEAD, chances, put_all, putting
from plain import line_web, plain_of, ring_store

A1, B1, C1, D1 = ("a", 1), ("b", 1), ("c", 1), ("d", 1)
X, Y, Z, NEW = ("a", 1, 1), ("a", 1, 2), ("a", 1, 3), ("d", 1, 1)


def lines(*places):
    return tuple(("a", 1, place) for place in places)


def settled_by(store, names, deed):
    """A view with a patch more, of a new hand, that does one deed and knows just what such a patch must."""
    view = View(store, names)
    known = {line[:2] for line in deed[1:]}
    if deed[0] != "order":
        known |= {name for name, _ in last_marks(view, deed[1])}
    number = max([name[1] for name in store.names() if name[0] == "z"], default=0) + 1
    more = put_all([store.patch_of(name) for name in sorted(store.names(), key=lambda name: len(store.knows_all(name)))])
    more.put_patch(Patch(("z", number), sorted(known), [deed]))
    return more, View(more, names + [("z", number)])


class Quarrels(Case):

    def setUp(self):
        self.store = ring_store()
        self.view = View(self.store, [A1, B1, C1, D1])

    def test_quarrels(self):
        for names, due in (
                ([A1], []), ([A1, B1], [("knot", lines(1, 2, 3))]), ([A1, C1], [("knot", lines(4, 5, 6)), ("knot", lines(7, 8))]),
                ([A1, D1], [("knot", lines(2, 3) + (NEW,))]), ([A1, B1, C1], [("knot", lines(1, 3)), ("knot", lines(4, 6))]),
                ([A1, B1, C1, D1], [("torn", Y), ("knot", lines(1, 2, 3)), ("knot", lines(4, 6))])):
            view = View(self.store, names)
            self.assertEqual(quarrels(view), due)
            self.assertIs(is_plain(view), due == [])

    def test_a_plain_sheet(self):
        for store in (Store(), put_all([Patch(A1, [], [])]), put_all([putting(A1, texts="xyz")]),
                      put_all([putting(A1, texts="xyz"), Patch(B1, [A1], [("cut", X), ("cut", Y), ("cut", Z)])])):
            view = View(store, store.names())
            self.assertEqual(quarrels(view), [])
            self.assertIs(is_plain(view), True)
        # A ring in which one told line is left, and one without any, are no quarrel.
        store = put_all([putting(A1, texts="xyzw"), Patch(B1, [A1], [
            ("order", Y, X), ("cut", Y), ("order", ("a", 1, 4), Z), ("cut", Z), ("cut", ("a", 1, 4))])])
        self.assertIs(is_plain(View(store, store.names())), True)

    def test_torn_lines_of_one_line_knots_and_of_knots(self):
        store = put_all([putting(A1, texts="xyz"), Patch(B1, [A1], [("cut", X), ("cut", Y), ("cut", Z)]),
                         Patch(C1, [A1], [("keep", X), ("keep", Z), ("put", X, Z, ("w",))])])
        view = View(store, store.names())
        self.assertEqual(quarrels(view), [("torn", X), ("torn", Z)])
        store.put_patch(Patch(D1, [A1], [("keep", Y)]))
        view = View(store, store.names())
        knot = ("knot", (Y, ("c", 1, 1)))
        self.assertEqual(quarrels(view), [("torn", X), ("torn", Y), knot, ("torn", Z)])
        self.assertEqual(ways_to_settle(view, knot), [("order", Y, ("c", 1, 1)), ("order", ("c", 1, 1), Y)])

    def test_ways(self):
        for quarrel, ways in (
                (("torn", Y), [("keep", Y), ("cut", Y)]),
                (("knot", lines(1, 2, 3)), [("cut", X), ("cut", Y), ("cut", Z)]),
                (("knot", lines(4, 6)), [("cut", ("a", 1, 4)), ("cut", ("a", 1, 6))])):
            self.assertEqual(ways_to_settle(self.view, quarrel), ways)
        self.assertEqual(ways_to_settle(View(self.store, [A1, D1]), ("knot", lines(2, 3) + (NEW,))), [
            ("order", Y, NEW), ("order", NEW, Y), ("order", Z, NEW), ("order", NEW, Z)])

    def test_ways_with_rings_and_loose_lines(self):
        # x, y, z in a ring, with y gone; w is loose to both; v is in a ring with a gone line alone.
        store = put_all([putting(A1, texts="xyz"), putting(B1, texts="wvu")])
        store.put_patch(Patch(C1, [A1, B1], [("order", Z, X), ("cut", Y), ("order", ("b", 1, 3), ("b", 1, 2)),
                                             ("cut", ("b", 1, 3))]))
        view = View(store, store.names())
        w, v = ("b", 1, 1), ("b", 1, 2)
        self.assertEqual(quarrels(view), [("knot", (X, Z, w, v))])
        self.assertEqual(ways_to_settle(view, ("knot", (X, Z, w, v))), [
            ("order", X, w), ("order", w, X), ("order", X, v), ("order", v, X), ("order", Z, w), ("order", w, Z),
            ("order", Z, v), ("order", v, Z), ("cut", X), ("cut", Z)])

    def test_what_is_no_quarrel(self):
        knot = ("knot", lines(1, 2, 3))
        things = ANYTHING + EQUALS + [
            ("torn", X), ("torn", ("a", 1, 5)), ("torn", ("a", 1, 9)), ("torn", HEAD), ("torn", (Y,)), ("torn", list(Y)),
            ["torn", Y], ("torn", Y, Y), ("torn",), ("torn", ("a", True, 2)), ("torn", ("a", 1, 2.0)), ("Torn", Y), ("cut", Y),
            ("knot", list(lines(1, 2, 3))), ("knot", lines(1, 2)), ("knot", lines(2, 1, 3)), ("knot", lines(1, 2, 3, 3)),
            ["knot", lines(1, 2, 3)], ("knot", ()), ("knot", (NEW,)), ("knot", Y), ("knot", None), ("knot", lines(4, 5, 6)),
            ("knot", (("a", True, 1),) + lines(2, 3)), ("knot", tuple(list(line) for line in lines(1, 2, 3))),
            ("knot", lines(1, 2, 3), 1), (b"knot", lines(1, 2, 3)), ("torn", lines(1, 2, 3)), knot[1], [knot], (knot,), Y]
        for thing in things:
            self.refused(OutOfPlace, {}, ways_to_settle, self.view, thing)
        self.refused(OutOfPlace, {}, ways_to_settle, View(self.store, [A1]), knot)
        self.assertEqual(len(ways_to_settle(self.view, knot)), 3)

    def see_settled(self, view, quarrel, way):
        """See what a way to settle did in a view that has it."""
        self.assertNotIn(quarrel, quarrels(view))
        if quarrel[0] == "torn":
            self.assertEqual(state_of(view, way[1]), "stands" if way[0] == "keep" else "gone")
        elif way[0] == "order":
            self.assertIs(is_ahead(view, way[1], way[2]), True)
            self.assertIs(is_ahead(view, way[2], way[1]), False)
        else:
            self.assertEqual(state_of(view, way[1]), "gone")

    def test_each_way_settles(self):
        ways = 0
        for seed in range(12):
            store = line_web(seed, 6)
            view = View(store, store.names())
            for quarrel in quarrels(view):
                for way in ways_to_settle(view, quarrel):
                    behind = settled_by(store, store.names(), way)[1]
                    if way[0] == "order":
                        self.assertNotEqual(ring_of(view, way[1]), ring_of(view, way[2]))
                        self.assertEqual(ring_of(behind, way[1]), ring_of(view, way[1]))
                        self.assertIs(is_ahead(behind, way[1], way[2]), True)
                    else:
                        self.see_settled(behind, quarrel, way)
                    ways += 1
        self.assertGreater(ways, 100)

    def test_each_quarrel_comes_to_an_end(self):
        for seed in range(30, 42):
            store = line_web(seed, 6)
            names = store.names()
            some = chances(seed)
            view = View(store, names)
            while not is_plain(view):
                quarrel = quarrels(view)[next(some) % len(quarrels(view))]
                ways = ways_to_settle(view, quarrel)
                store, view = settled_by(store, names, ways[next(some) % len(ways)])
                names = view.names()
            self.assertEqual(quarrels(view), [])

    def test_webs(self):
        torn = 0
        for seed in range(100, 150):
            store = line_web(seed, 3 + seed % 6)
            view = View(store, store.names())
            plain = plain_of(view)
            due = plain.quarrels()
            self.assertEqual(quarrels(view), due)
            self.assertIs(is_plain(view), not due)
            for kind, told in due:
                torn += kind == "torn"
                ways = [("keep", told), ("cut", told)]
                if kind == "knot":
                    ways = [way for one in told for other in told if one < other and plain.loose(one, other)
                            for way in (("order", one, other), ("order", other, one))]
                    ways += [("cut", one) for one in told if any(other in plain.ring(one) for other in plain.told if other != one)]
                self.assertEqual(ways_to_settle(view, (kind, told)), ways)
        self.assertGreater(torn, 5)

    def test_what_is_told_is_the_askers_own(self):
        first = quarrels(self.view)
        kept = list(first)
        first.clear()
        self.assertEqual(quarrels(self.view), kept)
        for quarrel in kept:
            ways = ways_to_settle(self.view, quarrel)
            again = list(ways)
            ways.reverse()
            ways.append("more")
            self.assertEqual(ways_to_settle(self.view, quarrel), again)
