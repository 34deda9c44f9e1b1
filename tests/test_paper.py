"""[70], [71], [72]: papers for claims."""

from itertools import combinations, product

from manyheads.check import check
from manyheads.errors import BadPaper
from manyheads.knowing import View
from manyheads.paper import claims_of, paper_for
from manyheads.patch import Patch
from manyheads.store import Store
from helpers import ANYTHING, EQUALS, Case, FOOT, HEAD, put_all, putting
from plain import line_web, plain_of, ring_store
from plaincheck import wrong_step

A1, B1, C1, D1 = ("a", 1), ("b", 1), ("c", 1), ("d", 1)
X, Y, Z, NEW = ("a", 1, 1), ("a", 1, 2), ("a", 1, 3), ("d", 1, 1)


def lines(*places):
    return [("a", 1, place) for place in places]


def told(view):
    return [view.patch_of(name).told() for name in view.names()]


def all_claims(plain):
    """All claims of a set, each with whether it is so; of rings some of all."""
    claims = []
    for one, other in product(sorted(plain.knows), sorted(plain.knows)):
        known = other in plain.known[one]
        claims += [(("knows", one, other), known), (("not known", one, other), not known)]
    for one, other in product(plain.lines, plain.lines):
        ahead = (one, other) in plain.ahead
        claims += [(("ahead", one, other), ahead), (("not ahead", one, other), not ahead)]
    for line in sorted(plain.put):
        claims += [((state, line), plain.state(line) == state) for state in ("stands", "gone", "torn")]
    for one, other in combinations(sorted(plain.put), 2):
        both = one in plain.told and other in plain.told
        claims.append((("loose", one, other), both and plain.loose(one, other)))
        claims.append((("ring", [one, other]), other in plain.ring(one)))
    for line in sorted(plain.put):
        ring = plain.ring(line)
        claims += [(("ring", ring), True), (("ring", ring[:-1]), True)] if len(ring) > 2 else []
        claims.append((("ring", sorted(set(ring + [X, Y]))), {X, Y} <= set(ring))) if len(ring) > 1 and Y in plain.put else None
        claims.append((("knot", [line]), line in plain.told and plain.knot(line) == [line]))
    knots = plain.knots()
    torn = [line for line in plain.told if plain.state(line) == "torn"]
    claims += [(("knot", knot), True) for knot in knots]
    claims += [(("knot", sorted(one + other)), False) for one, other in zip(knots, knots[1:])]
    claims += [(("sheet", knots, torn), True), (("sheet", knots[1:], torn), not knots)]
    claims += [(("sheet", knots[::-1], torn), len(knots) < 2), (("sheet", knots, torn[1:]), not torn)]
    claims += [(("sheet", knots, plain.told), torn == plain.told), (("sheet", [plain.told], torn), False)] if len(knots) > 1 else []
    return claims


class Papers(Case):

    def see(self, view, claim, so):
        """See that a claim has a paper that both checkers let by, if it is so, and else none."""
        if not so:
            self.refused(BadPaper, {"step": 0}, paper_for, view, claim)
            return None
        paper = paper_for(view, claim)
        self.assertIsNone(check(told(view), view.names(), claim, paper))
        self.assertIsNone(wrong_step(told(view), view.names(), claim, paper))
        self.assertEqual(paper[-1][0], claim)
        return paper

    def test_each_sort(self):
        view = View(ring_store(), [A1, B1, C1, D1])
        for claim, so in (
                (("knows", B1, A1), True), (("knows", A1, B1), False), (("knows", A1, A1), False),
                (("not known", A1, B1), True), (("not known", B1, C1), True), (("not known", A1, A1), True),
                (("not known", B1, A1), False), (("ahead", X, Z), True), (("ahead", HEAD, FOOT), True),
                (("ahead", HEAD, NEW), True), (("ahead", X, X), True), (("ahead", NEW, NEW), False),
                (("ahead", FOOT, HEAD), False), (("not ahead", NEW, NEW), True), (("not ahead", FOOT, FOOT), True),
                (("not ahead", X, X), False), (("not ahead", NEW, X), True), (("stands", X), True), (("gone", X), False),
                (("torn", X), False), (("torn", Y), True), (("stands", Y), False), (("gone", ("a", 1, 5)), True),
                (("torn", ("a", 1, 5)), False), (("stands", ("a", 1, 5)), False), (("loose", X, Y), False),
                (("ring", lines(1, 2, 3)), True), (("ring", lines(1, 3)), True), (("ring", lines(4, 5)), True),
                (("ring", lines(7, 8)), True), (("ring", lines(1, 2, 4)), False), (("ring", lines(5, 6, 7)), False),
                (("knot", lines(1, 2, 3)), True), (("knot", [NEW]), True), (("knot", lines(4, 6)), True),
                (("knot", lines(1, 2)), False), (("knot", lines(4, 5, 6)), False), (("knot", lines(7, 8)), False),
                (("knot", [("a", 1, 4)]), False),
                (("sheet", [lines(1, 2, 3), [NEW], lines(4, 6)], [Y]), True),
                (("sheet", [lines(1, 2, 3), [NEW], lines(4, 6)], []), False),
                (("sheet", [[NEW], lines(1, 2, 3), lines(4, 6)], [Y]), False),
                (("sheet", [lines(1, 2, 3) + [NEW], lines(4, 6)], [Y]), False),
                (("sheet", [lines(1, 2, 3), [NEW], lines(4, 5, 6)], [Y]), False), (("sheet", [], []), False)):
            self.see(view, claim, so)
        view = View(ring_store(), [A1, D1])
        self.see(view, ("loose", Y, NEW), True)
        self.see(view, ("loose", X, NEW), False)
        self.see(view, ("knot", [Y, Z, NEW]), True)

    def test_gone_lines_are_not_loose(self):
        store = put_all([putting(A1), putting(B1), Patch(C1, [A1], [("cut", X)])])
        self.see(View(store, [A1, B1]), ("loose", X, ("b", 1, 1)), True)
        self.see(View(store, [A1, B1, C1]), ("loose", X, ("b", 1, 1)), False)
        self.see(View(store, [A1, B1, C1]), ("not ahead", X, ("b", 1, 1)), True)
        store.put_patch(Patch(D1, [A1], [("keep", X)]))
        self.see(View(store, store.names()), ("loose", X, ("b", 1, 1)), True)
        self.see(View(store, store.names()), ("sheet", [[X, ("b", 1, 1)]], [X]), True)

    def test_papers_told(self):
        view = View(ring_store(), [A1, B1, C1, D1])
        for claim, paper in (
                (("knows", D1, A1), [(("knows", D1, A1), [D1, A1])]),
                (("ahead", HEAD, FOOT), [(("ahead", HEAD, FOOT), [None])]),
                (("ahead", Z, Y), [(("ahead", Z, Y), [(B1, 1, 1), (A1, 1, 2)])]),
                (("ahead", X, ("a", 1, 4)), [(("ahead", X, ("a", 1, 4)), [(D1, 2, 1), (D1, 2, 2)])]),
                (("gone", ("a", 1, 5)), [(("gone", ("a", 1, 5)), [[B1, A1]])]),
                (("stands", X), [(("stands", X), [])]),
                (("torn", Y), [(("torn", Y), ([A1, C1], [A1, D1]))]),
                (("ring", lines(7, 8)), [(("ring", lines(7, 8)), [(A1, 1, 8), (C1, 2, 1)])])):
            self.assertEqual(self.see(view, claim, True), paper)

    def test_a_view_of_no_patches(self):
        view = View(Store(), [])
        self.assertEqual(claims_of(view), [("sheet", [], [])])
        self.assertEqual(self.see(view, ("sheet", [], []), True), [(("sheet", [], []), [])])
        self.see(view, ("ahead", HEAD, FOOT), True)
        self.see(view, ("not ahead", FOOT, HEAD), True)
        self.see(view, ("not ahead", HEAD, FOOT), False)

    def test_all_lines_gone(self):
        view = View(put_all([putting(A1, texts="xy"), Patch(B1, [A1], [("cut", X), ("cut", Y)])]), [A1, B1])
        self.assertEqual(claims_of(view), [("gone", X), ("gone", Y), ("sheet", [], [])])
        self.assertEqual(len(self.see(view, ("sheet", [], []), True)), 3)

    def test_claims_of(self):
        view = View(ring_store(), [A1, B1, C1, D1])
        self.assertEqual(claims_of(view), [
            ("stands", X), ("torn", Y), ("stands", Z), ("stands", ("a", 1, 4)), ("gone", ("a", 1, 5)), ("stands", ("a", 1, 6)),
            ("gone", ("a", 1, 7)), ("gone", ("a", 1, 8)), ("stands", NEW),
            ("sheet", [lines(1, 2, 3), [NEW], lines(4, 6)], [Y])])
        for claim in claims_of(view):
            self.see(view, claim, True)

    def test_lines_that_came_in_another_order(self):
        # Lines of later hands come first, and are marked by the earlier hands, which put lines themselves.
        b1, b2 = ("b", 1, 1), ("b", 1, 2)
        store = put_all([putting(B1, texts="pqr"), Patch(A1, [B1], [("cut", b2), ("cut", b1), ("put", b1, b2, ("x", "y"))]),
                         Patch(C1, [A1], [("cut", X), ("keep", b1)]), Patch(D1, [A1], [("keep", X), ("keep", Y), ("cut", Y)]),
                         Patch(("a", 2), [B1], [("keep", b2)])])
        view = View(store, store.names())
        claims = claims_of(view)
        self.assertEqual(claims, [("torn", X), ("gone", Y), ("stands", b1), ("torn", b2), ("stands", ("b", 1, 3)),
                                  ("sheet", [[b1], [X], [b2], [("b", 1, 3)]], [X, b2])])
        for claim in claims + [("knot", [b1]), ("knot", [b2])]:
            self.see(view, claim, True)

    def test_what_is_no_claim(self):
        view = View(ring_store(), [A1, B1, D1])
        things = ANYTHING + EQUALS + [
            ("knows", B1), ("knows", B1, A1, A1), ("knows", B1, C1), ("knows", B1, ("a", True)), ("knows", B1, list(A1)),
            ["knows", B1, A1], ("Knows", B1, A1), (b"knows", B1, A1), ("known", B1, A1), ("not known", A1, ("z", 1)),
            ("knows", X, Y), ("ahead", A1, B1), ("ahead", X), ("ahead", X, ("a", 1, 9)), ("ahead", X, ("", 0, True)),
            ("ahead", X, ("", False, 1)), ("ahead", X, ("a", 1, 10 ** 30)), ("not ahead", X, None), ("not ahead", HEAD, ("", 0, 2)),
            ("ahead", list(HEAD), FOOT), ("stands",), ("stands", HEAD), ("stands", X, X), ("stands", ("a", True, 1)),
            ("stands", ("c", 1, 1)), ("gone", FOOT), ("torn", [Y]), ("torn", Y, Y), ("loose", NEW, Y), ("loose", Y, Y),
            ("loose", HEAD, Y), ("loose", Y), ("loose", Y, ("d", 1, True)), ("ring", lines(1)), ("ring", []),
            ("ring", tuple(lines(1, 2, 3))), ("ring", lines(2, 1, 3)), ("ring", lines(1, 2, 2)), ("ring", [HEAD, X]),
            ("ring", lines(1, 2), 1), ("ring", X), ("ring", [list(X), Y]), ("ring", [("a", True, 1), Y]),
            ("knot", []), ("knot", X), ("knot", tuple(lines(1, 2, 3))), ("knot", lines(3, 2, 1)), ("knot", [lines(1, 2, 3)]),
            ("knot", [HEAD]), ("knot",), ("sheet", [], [], []), ("sheet", []), ("sheet", [[]], []), ("sheet", [X], []),
            ("sheet", [(X,)], []), ("sheet", ([X],), []), ("sheet", [[X]], ()), ("sheet", [[X]], None), ("sheet", None, []),
            ("sheet", [[X], [X]], []), ("sheet", [[X]], [HEAD]), ("sheet", [[X]], [Y, X]), ("sheet", [[Y, X]], []),
            ("sheet",), ("ring",), ("order", X, Y), ("cut", X), "stands", ("stands X",)]
        for thing in things:
            self.refused(BadPaper, {"step": 0}, paper_for, view, thing)
            self.refused(BadPaper, {"step": 0}, check, told(view), view.names(), thing, [])

    def test_webs(self):
        papers = {}
        for seed in range(14):
            store = line_web(seed, 2 + seed % 5)
            view = View(store, store.names())
            plain = plain_of(view)
            for claim, so in all_claims(plain):
                self.see(view, claim, so)
                papers[claim[0]] = papers.get(claim[0], 0) + so
            torn = [line for line in plain.told if plain.state(line) == "torn"]
            self.assertEqual(claims_of(view), [(plain.state(line), line) for line in sorted(plain.put)]
                             + [("sheet", plain.knots(), torn)])
        self.assertEqual(len(papers), 11)
        self.assertGreater(min(papers.values()), 3)

    def test_a_long_sheet(self):
        store = put_all([putting(A1, texts="x" * 120), putting(B1, texts="y" * 40), putting(C1, [A1, B1], "z" * 20)])
        store.put_patch(Patch(D1, [C1], [("order", ("a", 1, 120), ("b", 1, 1)), ("order", ("b", 1, 40), ("a", 1, 100)),
                                         ("order", ("c", 1, 20), X)]))
        view = View(store, store.names())
        claim = claims_of(view)[-1]
        self.assertEqual(len(claim[1]), 20 + 99 + 1)
        paper = paper_for(view, claim)
        self.assertIsNone(check(told(view), view.names(), claim, paper))
        knot = ("knot", claim[1][-1])
        self.assertIsNone(check(told(view), view.names(), knot, paper_for(view, knot)))

    def test_many_loose_lines(self):
        store = put_all([Patch(A1, [], [("put", HEAD, FOOT, ("x",))] * 120)])
        view = View(store, [A1])
        for claim in (("sheet", [lines(*range(1, 121))], []), ("knot", lines(*range(1, 121)))):
            self.assertIsNone(check(told(view), [A1], claim, paper_for(view, claim)))

    def test_what_is_told_is_the_askers_own(self):
        view = View(ring_store(), [A1, B1, C1, D1])
        for claim in (("ring", lines(1, 2, 3)), ("knot", lines(1, 2, 3)), claims_of(view)[-1], ("not known", D1, B1)):
            kept = repr(claim)
            paper = paper_for(view, claim)
            due = repr(paper)
            self.spoil(paper)
            self.assertEqual(repr(claim), kept)
            self.assertEqual(repr(paper_for(view, claim)), due)
        first = claims_of(view)
        due = repr(first)
        self.spoil(first)
        self.assertEqual(repr(claims_of(view)), due)

    def spoil(self, thing):
        """Change all lists within a thing."""
        for part in list(thing) if isinstance(thing, (list, tuple)) else []:
            self.spoil(part)
        if isinstance(thing, list):
            thing.reverse()
            thing.append("more")
