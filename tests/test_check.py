"""[80]: the checker lets by just what is a paper, and refuses all else at its first wrong step."""

import time

from manyheads.check import check
from manyheads.errors import BadPaper
from manyheads.knowing import View
from manyheads.paper import claims_of, paper_for
from manyheads.patch import Patch
from manyheads.store import Store
from manyheads.words import is_name
from helpers import ANYTHING, EQUALS, Case, FOOT, HEAD, chances, put_all, putting
from plain import line_web, ring_store
from plaincheck import as_told, table_of, wrong_step

A1, B1, C1, D1 = ("a", 1), ("b", 1), ("c", 1), ("d", 1)
X, Y, Z, NEW = ("a", 1, 1), ("a", 1, 2), ("a", 1, 3), ("d", 1, 1)
FOUR, FIVE, SIX, SEVEN, EIGHT = (("a", 1, place) for place in range(4, 9))


def told(store):
    return [store.patch_of(name).told() for name in store.names()]


def copied(thing):
    """A thing with lists of its own."""
    if isinstance(thing, (list, tuple)):
        return thing.__class__(copied(part) for part in thing)
    return thing


class CheckCase(Case):

    def setUp(self):
        self.store = ring_store()
        self.names = self.store.names()
        self.view = View(self.store, self.names)

    def good(self, claim, paper, names=None):
        kept = repr((claim, paper))
        self.assertIsNone(check(told(self.store), self.names if names is None else names, claim, paper))
        self.assertIsNone(wrong_step(told(self.store), self.names if names is None else names, claim, paper))
        self.assertEqual(repr((claim, paper)), kept)

    def bad(self, step, claim, paper, names=None):
        names = self.names if names is None else names
        self.refused(BadPaper, {"step": step}, check, told(self.store), names, claim, paper)
        self.assertEqual(wrong_step(told(self.store), names, claim, paper), step)

    def shows(self, fact, goods, bads):
        """See which evidences show a fact, and which don't."""
        for evidence in goods:
            self.good(fact, [(fact, evidence)])
        for evidence in bads + [thing for thing in ANYTHING if thing is not None and as_told(thing) not in table_of(goods + [[]])]:
            self.refused(BadPaper, {"step": 1}, check, told(self.store), self.names, fact, [(fact, evidence)])


class Evidence(CheckCase):

    def test_knows(self):
        self.store.put_patch(Patch(("e", 1), [B1, C1], []))
        self.names = self.store.names()
        e1 = ("e", 1)
        self.shows(("knows", e1, A1), [[e1, B1, A1], [e1, C1, A1]], [
            [e1, A1], [B1, A1], [e1, B1], [e1, D1, A1], [e1], [A1], [], None, (e1, B1, A1), [e1, B1, B1, A1], [A1, B1, e1],
            [e1, B1, ("a", True)], [e1, B1, list(A1)], [e1, B1, A1, A1], [e1, ("z", 1), A1], {e1: 1, B1: 1, A1: 1}])
        self.shows(("knows", A1, A1), [], [[A1], [A1, A1], [], None])
        self.shows(("knows", A1, e1), [], [[e1, B1, A1], [A1, B1, e1], None])

    def test_not_known(self):
        self.store.put_patch(Patch(("e", 1), [B1], []))
        self.names = self.store.names()
        e1 = ("e", 1)
        self.shows(("not known", e1, C1), [[B1, A1], [A1, B1], [A1, A1, B1], [A1, B1, D1], [A1, B1, D1, e1]], [
            [B1], [A1], [], [A1, B1, C1], [B1, D1], (B1, A1), None, [B1, A1, ("z", 1)], [B1, A1, ("b", True)], [B1, list(A1)],
            [e1], {A1: 1, B1: 1}])
        self.shows(("not known", A1, A1), [[]], [None, (), [A1], [B1], [e1]])
        self.shows(("not known", A1, B1), [[], [A1], [C1, A1]], [[B1], [A1, B1], [C1]])
        self.shows(("not known", e1, A1), [], [[B1], [B1, A1], [], None])

    def test_ahead(self):
        self.shows(("ahead", Z, Y), [[(B1, 1, 1), (A1, 1, 2)], [(B1, 1, 1), (A1, 1, 2), (A1, 1, 3), (B1, 1, 1), (A1, 1, 2)]], [
            [(A1, 1, 2), (B1, 1, 1)], [(B1, 1, 1)], [(A1, 1, 2)], [], None, ((B1, 1, 1), (A1, 1, 2)), [(A1, 1, 3)],
            [(B1, True, 1), (A1, 1, 2)], [(B1, 1, True), (A1, 1, 2)], [(B1, 1, 1), (A1, 1, 3)], [[B1, 1, 1], [A1, 1, 2]],
            [(B1, 1, 2), (A1, 1, 2)], [(B1, 1, 0), (A1, 1, 2)], [(B1, 0, 1), (A1, 1, 2)], [(B1, -4, 1), (A1, 1, 2)],
            [(B1, 5, 1), (A1, 1, 2)], [(B1, 2, 1), (A1, 1, 2)], [(B1, 1, 1), (A1, 1, -8)], [(("z", 1), 1, 1), (A1, 1, 2)],
            [(list(B1), 1, 1), (A1, 1, 2)], [(B1, 1), (A1, 1)], [(B1, 1, 1, 1), (A1, 1, 2)], [None], [(B1, 1, 1), None]])
        self.shows(("ahead", HEAD, FOOT), [[None], [(A1, 1, place) for place in range(1, 10)]], [[None, None], [], None, [()]])
        self.shows(("ahead", X, FOUR), [[(D1, 2, 1), (D1, 2, 2)], [(A1, 1, 2), (A1, 1, 3), (A1, 1, 4)]], [[(D1, 1, 1), (D1, 1, 2)]])
        self.shows(("ahead", X, X), [[(A1, 1, 2), (A1, 1, 3), (B1, 1, 1)]], [[], None])
        self.shows(("ahead", NEW, NEW), [], [[], None, [(D1, 2, 2)]])
        self.shows(("ahead", SEVEN, FOOT), [[(A1, 1, 8), (A1, 1, 9)]], [[(A1, 1, 8), (A1, 1, 10)], [(A1, 1, 9)]])

    def test_not_ahead(self):
        rest = [FIVE, SIX, SEVEN, EIGHT, FOOT]
        self.shows(("not ahead", NEW, X), [[FOUR] + rest, rest[::-1] + [FOUR], [FOUR, NEW] + rest + rest], [
            [FOUR], rest, [FOUR] + rest + [X], [FOUR] + rest[:-1], tuple([FOUR] + rest), [], None, [FOUR] + rest + [("a", 1, 9)],
            [FOUR] + rest + [("d", True, 1)], [FOUR] + rest + [list(NEW)], [FOUR] + rest[:-1] + [("", 0, True)], [NEW],
            [FOUR] + rest + [HEAD], {line: 1 for line in [FOUR] + rest}])
        self.shows(("not ahead", FOOT, HEAD), [[], [FOOT], [SEVEN, EIGHT, FOOT]], [[HEAD], [X], None, ()])
        self.shows(("not ahead", NEW, NEW), [[FOUR] + rest], [[FOUR, NEW] + rest, []])
        self.shows(("not ahead", X, X), [], [[], [Y, Z, X], [Y, Z], [HEAD, FOOT, X, Y, Z, NEW, FOUR] + rest])
        self.shows(("not ahead", HEAD, FOOT), [], [[], [X, Y, Z, NEW, FOUR] + rest, [X, Y, Z, NEW, FOUR] + rest[:-1]])
        self.shows(("not ahead", HEAD, HEAD), [[X, Y, Z, NEW, FOUR] + rest], [[X, Y, Z, FOUR] + rest, rest, [FOOT]])

    def test_stands_and_gone(self):
        self.store.put_patch(Patch(("e", 1), [C1], [("keep", Y), ("cut", X)]))
        self.store.put_patch(Patch(("f", 1), [D1, ("e", 1)], [("cut", FOUR)]))
        self.store.put_patch(Patch(("g", 1), [("f", 1)], [("keep", X), ("keep", FOUR), ("cut", ("d", 1, 1))]))
        self.names = self.store.names()
        e1, f1, g1 = ("e", 1), ("f", 1), ("g", 1)
        self.shows(("stands", Y), [[[e1, C1]]], [[], [[C1, A1]], [[e1, C1], [e1, C1]], [[D1, C1]], [[f1, e1, C1]], [(e1, C1)],
                                                ([e1, C1],), [e1, C1], [[C1]], [[C1, C1]], [[e1, ("c", True)]], None, [None]])
        self.shows(("stands", X), [[[g1, f1, e1]]], [[[f1, e1]], [[g1, e1]], [], [[e1, C1, A1]]])
        self.shows(("stands", Z), [[]], [None, (), [[]], [[B1, A1]]])
        self.shows(("stands", FOUR), [[[g1, f1]]], [[]])
        self.shows(("gone", FIVE), [[[B1, A1]]], [[], [[C1, A1]], [[B1, A1], [B1, A1]], [[A1, A1]], None, [(B1, A1)]])
        self.shows(("gone", NEW), [[[g1, f1, D1]]], [[[f1, D1]], [[g1, D1]], []])
        for fact in (("stands", FIVE), ("gone", Y), ("gone", X), ("torn", X), ("gone", Z), ("stands", NEW)):
            self.shows(fact, [], [[], [[B1, A1]], [[e1, C1]], None, ([], []), ([A1], [A1])])

    def test_each_mark_in_its_order(self):
        # Both cuts are known by the keep of f.1; the one by a way through e.1.
        self.store = put_all([putting(A1), Patch(B1, [A1], [("cut", X)]), Patch(C1, [A1], [("cut", X)]), Patch(D1, [C1], []),
                              Patch(("f", 1), [B1, D1], [("keep", X)])])
        self.names = self.store.names()
        f1 = ("f", 1)
        self.shows(("stands", X), [[[f1, B1], [f1, D1, C1]]], [
            [[f1, D1, C1], [f1, B1]], [[f1, B1]], [[f1, D1, C1]], [[f1, B1], [f1, C1]], [[f1, B1], [D1, C1]],
            [[f1, B1], [f1, D1, C1], [f1, B1]]])

    def test_torn(self):
        self.shows(("torn", Y), [([A1, C1], [A1, D1]), ([C1, A1, A1], [D1, A1]), ([A1, B1, C1], [A1, B1, D1])], [
            ([A1, D1], [A1, C1]), ([C1], [D1]), ([A1, C1], [A1, C1]), ([A1], [A1]), ([A1, C1, D1], [A1, C1, D1]), ([], []),
            [[A1, C1], [A1, D1]], ((A1, C1), (A1, D1)), ([A1, C1],), ([A1, C1], [A1, D1], []), ([A1, C1], None), None,
            ([A1, C1], [A1, ("d", True)]), ([A1, C1, ("z", 1)], [A1, D1]), ([C1, D1], [A1, D1])])
        for fact in (("torn", X), ("torn", FIVE)):
            self.shows(fact, [], [([A1], [A1]), ([], []), ([B1], [A1]), ([A1, B1], [A1, B1]), ([], [A1]), ([A1], [])])

    def test_ring(self):
        around = [(A1, 1, 2), (A1, 1, 3), (B1, 1, 1)]
        self.shows(("ring", [X, Y, Z]), [around, around + around], [
            around[:2], around[1:], around[1:] + around[:1], [], None, tuple(around), around[::-1], around + around[:1],
            [(A1, True, 2)] + around[1:]])
        self.shows(("ring", [X, Z]), [around], [around[:2], around[2:], around[1:] + around[:1]])
        self.shows(("ring", [Y, Z]), [around[1:] + around[:1]], [around])
        self.shows(("ring", [FOUR, FIVE]), [[(A1, 1, 5), (A1, 1, 6), (C1, 1, 1)]], [[(A1, 1, 5)]])
        self.shows(("ring", [X, Y, FOUR]), [], [around, around + [(D1, 2, 1), (D1, 2, 2)], []])

    def test_loose(self):
        self.store = put_all([putting(A1), putting(B1), Patch(C1, [A1], [("cut", X)]), Patch(D1, [A1], [("keep", X)])])
        self.names = self.store.names()
        other = ("b", 1, 1)
        state = (("torn", X), ([A1, C1], [A1, D1]))
        stands = (("stands", other), [])
        one, two = (("not ahead", X, other), [FOOT]), (("not ahead", other, X), [FOOT])
        end = (("loose", X, other), None)
        self.good(end[0], [state, stands, one, two, end])
        self.good(end[0], [two, one, stands, state, end, end])
        self.good(end[0], [two, one, two, stands, state, state, end])
        for at in range(4):
            steps = [state, stands, one, two]
            del steps[at]
            self.bad(4, end[0], steps + [end])
        self.bad(2, end[0], [state, end, stands, one, two])
        self.bad(1, end[0], [end])
        self.bad(5, end[0], [state, stands, one, two])
        self.bad(6, end[0], [state, stands, one, two, end, (end[0], [])])
        self.bad(7, end[0], [state, stands, one, two, end, two])
        for evidence in (thing for thing in ANYTHING if thing is not None):
            self.refused(BadPaper, {"step": 5}, check, told(self.store), self.names, end[0],
                         [state, stands, one, two, (end[0], evidence)])
        self.names = [A1, B1, C1]
        gone = (("gone", X), [[C1, A1]])
        self.good(gone[0], [gone])
        self.bad(5, end[0], [gone, stands, one, two, end])

    def states(self):
        """Steps that tell the states of all lines of the store with rings."""
        return [paper_for(self.view, claim)[0] for claim in claims_of(self.view)[:-1]]

    def ahead(self, lines, others):
        return [paper_for(self.view, ("ahead", one, other))[0] for one in lines for other in others]

    def test_knot(self):
        rest = [FIVE, SEVEN, EIGHT, FOOT]
        fact = ("knot", [NEW])
        ahead, behind = [X, Y, Z], [FOUR, SIX]
        steps = self.states() + self.ahead(ahead, [NEW]) + self.ahead([NEW], behind)
        start, farther = [NEW, FOUR, SIX] + rest, [FOUR, SIX] + rest
        many = len(steps) + 1
        for evidence in ((ahead, behind, start, farther), (ahead[::-1], behind[::-1], start[::-1], farther[::-1]),
                         (ahead, behind, start + start, farther + farther)):
            self.good(fact, steps + [(fact, evidence)])
        for evidence in (
                (ahead[1:], behind, start, farther), (ahead, behind[1:], start, farther), (ahead + [X], behind, start, farther),
                (ahead, behind + [SIX], start, farther), (ahead, behind + [FIVE], start, farther), (ahead + [NEW], behind, start, farther),
                (ahead, behind + [NEW], start, farther), (behind, ahead, start, farther), (ahead + behind, [], start, farther),
                (ahead, behind, start[1:], farther), (ahead, behind, start[:-1], farther), (ahead, behind, start + [X], farther),
                (ahead, behind, start, farther[1:]), (ahead, behind, start, farther[:-1]), (ahead, behind, start, start),
                (ahead, behind, farther, farther), (ahead, behind, farther, start), (ahead, behind, start, []), (ahead, behind, [], farther),
                [ahead, behind, start, farther], (ahead, behind, start), (ahead, behind, start, farther, []), None, [], (),
                (tuple(ahead), behind, start, farther), (ahead, behind, tuple(start), farther), (ahead, None, start, farther),
                (ahead, behind, start + [("a", 1, 9)], farther), (ahead, behind, start, farther + [("", 0, True)]),
                ([HEAD] + ahead, behind, start, farther), (ahead, behind + [FOOT], start, farther)):
            self.bad(many, fact, steps + [(fact, evidence)])
        end = (fact, (ahead, behind, start, farther))
        for at in range(len(steps)):
            self.bad(many - 1, fact, steps[:at] + steps[at + 1:] + [end])
            self.good(fact, steps[at:] + steps[:at] + [end])
            self.bad(1, fact, [end] + steps)
        self.bad(many, fact, steps)

    def test_a_knot_hangs_together(self):
        # x, y; p, q; r: p and q in a ring with o, which is gone; x is loose to p, y to r, and q to r.
        self.store = put_all([putting(A1, texts="xy"), Patch(B1, [A1], [("put", HEAD, FOOT, tuple("poq")), ("put", X, FOOT, ("r",)), (
            "order", ("b", 1, 3), ("b", 1, 1)), ("cut", ("b", 1, 2))])])
        self.names = self.store.names()
        self.view = View(self.store, self.names)
        p, o, q, r = (("b", 1, place) for place in range(1, 5))
        states = self.states()
        ring = paper_for(self.view, ("ring", [p, q]))
        pairs = {pair: paper_for(self.view, ("loose", *pair))[2:] for pair in ((X, p), (X, q), (Y, q), (Y, r), (p, r), (q, r))}
        fact = ("knot", [X, Y, p, q, r])
        end = [(fact, ([], [], [X, Y, p, o, q, r, FOOT], []))]
        for links, good in (
                ([ring, pairs[(X, p)], pairs[(Y, r)], pairs[(p, r)]], True), ([ring, pairs[(X, p)], pairs[(Y, r)], pairs[(q, r)]], True),
                ([pairs[pair] for pair in pairs], True), ([pairs[(X, p)], pairs[(Y, r)], pairs[(q, r)]], False),
                ([ring, pairs[(X, p)], pairs[(q, r)]], False), ([ring], False), ([], False),
                ([ring, pairs[(X, p)], pairs[(X, q)], pairs[(Y, r)]], False),
                ([paper_for(self.view, ("ring", [p, o, q])), pairs[(X, q)], pairs[(Y, q)], pairs[(q, r)]], True),
                ([paper_for(self.view, ("ring", [p, o])), pairs[(X, q)], pairs[(Y, q)], pairs[(q, r)]], False),
                ([paper_for(self.view, ("ring", [p, o])), paper_for(self.view, ("ring", [o, q])), pairs[(X, q)], pairs[(Y, q)],
                  pairs[(q, r)]], False)):
            for some in (links, links[::-1]):
                steps = states + [step for link in some for step in link]
                if good:
                    self.good(fact, steps + end)
                    sheet = ("sheet", [fact[1]], [])
                    self.good(sheet, steps + [(sheet, [])])
                else:
                    self.bad(len(steps) + 1, fact, steps + end)
                    self.bad(len(steps) + 1, ("sheet", [fact[1]], []), steps + [(("sheet", [fact[1]], []), [])])
        # Without all its lines it is no knot.
        self.bad(len(states) + 1, ("knot", [X]), states + [(("knot", [X]), ([], [], [X, Y, r, FOOT], []))])

    def test_sheet(self):
        knots = [[X, Y, Z], [NEW], [FOUR, SIX]]
        fact = ("sheet", knots, [Y])
        rest = [FIVE, SEVEN, EIGHT, FOOT]
        steps = self.states() + self.ahead(knots[0], knots[1]) + self.ahead(knots[1], knots[2])
        steps += [paper_for(self.view, ("ring", [X, Y, Z]))[0], paper_for(self.view, ("ring", [FOUR, SIX]))[0]]
        many = len(steps) + 1
        first, second = [NEW, FOUR, SIX] + rest, [FOUR, SIX] + rest
        for evidence in ([first, second], [first[::-1], second + second]):
            self.good(fact, steps + [(fact, evidence)])
        for evidence in ([second, first], [first], [second], [first, second, []], [], None, (first, second), [tuple(first), second],
                         [first, second[1:]], [first[1:], second], [first + [X], second], [first, second + [NEW]], [first, first],
                         [second, second], [first, second + [("a", 1, 9)]], [first[:-1] + [("", 0, True)], second], [first, None]):
            self.bad(many, fact, steps + [(fact, evidence)])
        end = (fact, [first, second])
        for at in range(len(steps)):
            self.bad(many - 1, fact, steps[:at] + steps[at + 1:] + [end])
            self.good(fact, steps[:at] + steps[at:at + 1] * 2 + steps[at + 1:] + [end])
        for other in (("sheet", knots, []), ("sheet", knots, [X, Y]), ("sheet", knots[:2], [Y]), ("sheet", knots[1:], [Y]),
                      ("sheet", knots[::-1], [Y]), ("sheet", [[X, Y], [NEW], [FOUR, SIX]], [Y]), ("sheet", [], []),
                      ("sheet", [[X, Y, Z], [NEW, FOUR, SIX][1:], [NEW]], [Y]), ("sheet", [[X, Y, Z], [NEW], [FOUR, FIVE, SIX]], [Y]),
                      ("sheet", [[X, Y, Z], [X, NEW], [FOUR, SIX]], [Y]), ("sheet", [[X, Y], [Z], [NEW], [FOUR, SIX]], [Y])):
            for evidence in ([first, second], [first], [], [first, second, second], [first, first, second]):
                self.bad(many, other, steps + [(other, evidence)])


class Walking(CheckCase):

    def test_names(self):
        claim, paper = ("stands", X), [(("stands", X), [])]
        self.good(claim, paper)
        self.good(claim, paper, [A1])
        self.good(claim, paper, [A1, C1])
        for names in ANYTHING + [[thing] for thing in EQUALS] + [
                [B1], [B1, C1], [B1, A1], [A1, A1], [A1, B1, B1], (A1,), tuple(self.names), {A1: 1}, [A1, ("z", 1)], [A1, ("b", True)],
                [list(A1)], [A1, None], [X], self.names[::-1], self.names + [D1], None, "a.1"]:
            self.refused(BadPaper, {"step": 0}, check, told(self.store), names, claim, paper)
            self.refused(BadPaper, {"step": 0}, check, told(self.store), names, None, None)

    def test_names_that_are_just_equal(self):
        claim, paper = ("stands", X), [(("stands", X), [])]
        for at, name in enumerate(self.names):
            for other in ((name[0], True), list(name), (name[0], name[1], 1), (name,), name[0]):
                self.bad(0, claim, paper, self.names[:at] + [other] + self.names[at + 1:])
                self.bad(0, claim, paper, self.names[:at] + [other])

    def test_patches_that_are_no_closed_set(self):
        sheet = ("sheet", [], [])
        for patches, names in (([B1, C1], [B1, C1]), ([B1, C1, D1], [B1]), ([B1], [B1]), ([B1, D1], [D1])):
            rows = [self.store.patch_of(name).told() for name in patches]
            self.refused(BadPaper, {"step": 0}, check, rows, names, sheet, [(sheet, [])])
            self.assertIsNone(check(rows, [], sheet, [(sheet, [])]))

    def test_a_short_paper_takes_little_time(self):
        """Weighed against looking at each letter of all names; the check of other patches took twice as long."""
        store = Store()
        store.put_patch(putting(A1, (), "abcdefghijkl"))
        for number in range(2, 64):
            store.put_patch(Patch(("a", number), [("a", number - 1)], [("keep", ("a", 1, 1 + number % 12))]))
        patches, names = told(store), store.names()
        claim = ("knows", ("a", 2), A1)
        spent, weight = [], []
        for _ in range(200):
            begun = time.perf_counter()
            check(patches, names, claim, [(claim, [("a", 2), A1])])
            spent.append(time.perf_counter() - begun)
            begun = time.perf_counter()
            self.assertTrue(all([is_name(name) for name in names]))
            weight.append(time.perf_counter() - begun)
        self.assertLess(min(spent), min(weight))

    def test_an_empty_set(self):
        sheet = ("sheet", [], [])
        self.good(sheet, [(sheet, [])], [])
        self.bad(1, sheet, [(sheet, [[]])], [])
        self.bad(0, ("stands", X), [(("stands", X), [])], [])
        self.good(("ahead", HEAD, FOOT), [(("ahead", HEAD, FOOT), [None])], [])
        self.assertIsNone(check([], [], sheet, [(sheet, [])]))

    def test_patches_in_any_order(self):
        claim = claims_of(self.view)[-1]
        paper = paper_for(self.view, claim)
        patches = told(self.store)
        for at in range(len(patches)):
            patches.append(patches.pop(0))
            self.assertIsNone(check(patches, self.names, claim, paper))
            self.assertIsNone(check(patches[::-1], self.names, claim, paper))
        kept = repr(patches)
        check(patches, self.names, claim, paper)
        self.assertEqual(repr(patches), kept)

    def test_only_the_set_counts(self):
        # What patches that aren't of the set say is nothing.
        claims = [("stands", Y), ("not ahead", Z, X), ("gone", FIVE)]
        good = [[(("stands", Y), [])], [(("not ahead", Z, X), [FOUR, FIVE, SIX, SEVEN, EIGHT, FOOT])], None]
        for claim, paper in zip(claims, good):
            if paper:
                self.good(claim, paper, [A1])
                self.bad(1, claim, paper)
        self.bad(1, ("gone", FIVE), [(("gone", FIVE), [[B1, A1]])], [A1])
        self.bad(1, ("ahead", Z, X), [(("ahead", Z, X), [(B1, 1, 1)])], [A1, C1])
        self.bad(1, ("not known", A1, A1), [(("not known", A1, A1), [B1])], [A1, C1])
        self.bad(0, ("stands", NEW), [(("stands", NEW), [])], [A1])
        self.bad(0, ("knows", B1, A1), [(("knows", B1, A1), [B1, A1])], [A1])
        self.bad(1, ("stands", X), [(("stands", NEW), []), (("stands", X), [])], [A1])

    def test_claims(self):
        step = (("stands", X), [])
        for thing in ANYTHING + EQUALS + [("stands", HEAD), ["stands", X], ("stands", list(X)), ("stands", ("a", True, 1)), step]:
            self.refused(BadPaper, {"step": 0}, check, told(self.store), self.names, thing, [step])
            self.refused(BadPaper, {"step": 2}, check, told(self.store), self.names, step[0], [step, (thing, [])])
            self.refused(BadPaper, {"step": 2}, check, told(self.store), self.names, step[0], [step, (thing, []), step])

    def test_papers(self):
        step = (("stands", X), [])
        for thing in ANYTHING + [(step,), {0: step}, list(step)]:
            if thing == [] or not isinstance(thing, list):
                self.refused(BadPaper, {"step": 1 if thing == [] else 0}, check, told(self.store), self.names, step[0], thing)
            self.refused(BadPaper, {"step": 1}, check, told(self.store), self.names, step[0], [thing])
            self.refused(BadPaper, {"step": 3}, check, told(self.store), self.names, step[0], [step, step, thing, step])
        for thing in ([("stands", X), []], (("stands", X),), (("stands", X), [], []), (["stands", X], []), (("stands", X), ()),
                      (("gone", X), []), (("torn", X), [])):
            self.bad(1, step[0], [thing])
            self.bad(2, step[0], [step, thing, None])

    def test_the_end(self):
        one, two = (("stands", X), []), (("stands", Z), [])
        self.good(two[0], [one, two])
        self.good(two[0], [two, two])
        self.bad(3, one[0], [one, two])
        self.bad(2, one[0], [two])
        self.bad(1, one[0], [])
        self.bad(4, ("gone", X), [one, two, one])
        self.bad(2, one[0], [one, (("gone", X), [[B1, A1]]), two])


class Changed(CheckCase):
    """Papers with something changed: refused just where the second checker refuses them."""

    def see(self, patches, names, claim, paper):
        kept = repr((patches, names, claim, paper))
        due = wrong_step(patches, names, claim, paper)
        if due is None:
            self.assertIsNone(check(patches, names, claim, paper))
        else:
            self.refused(BadPaper, {"step": due}, check, patches, names, claim, paper)
        self.assertEqual(repr((patches, names, claim, paper)), kept)
        return due

    def changes(self, paper, some):
        """Papers that are somehow other than this one."""
        for at, step in enumerate(paper):
            if len(paper) > 12 and next(some) % 4 and at < len(paper) - 1:
                continue
            yield paper[:at] + paper[at + 1:]
            yield paper[:at] + [step, step] + paper[at + 1:]
            other = next(some) % len(paper)
            if other != at:
                changed = list(paper)
                changed[at], changed[other] = changed[other], changed[at]
                yield changed
                yield paper[:at] + [(step[0], paper[other][1])] + paper[at + 1:]
                yield paper[:at] + [(paper[other][0], step[1])] + paper[at + 1:]
                yield paper[:at] + [paper[other]] + paper[at + 1:]
            for evidence in self.other_things(step[1], some):
                yield paper[:at] + [(step[0], evidence)] + paper[at + 1:]
            for fact in self.other_things(step[0], some):
                yield paper[:at] + [(fact, step[1])] + paper[at + 1:]
            yield paper[:at] + [list(step)] + paper[at + 1:]

    def other_things(self, thing, some):
        """Things that are other than this one in one of its parts, or in the order or the kind of these."""
        if isinstance(thing, (list, tuple)) and thing:
            kind = thing.__class__
            parts = list(thing)
            at = next(some) % len(parts)
            yield tuple(parts) if kind is list else list(parts)
            yield kind(parts[:at] + parts[at + 1:])
            yield kind(parts[:at + 1] + parts[at:])
            yield kind(parts[::-1])
            for part in self.other_things(parts[at], some):
                yield kind(parts[:at] + [part] + parts[at + 1:])
        elif isinstance(thing, int):
            yield from (thing + 1, thing - 1, True, str(thing))
        elif isinstance(thing, str):
            yield from (thing + "x", "a", "knows", "stands", "gone", "ahead", "not ahead", None)
        else:
            yield from (None, [], (), 0)

    def test_changed_papers(self):
        seen = {}
        for seed in range(9):
            store = line_web(seed, 2 + seed % 3) if seed else ring_store()
            view, some = View(store, store.names()), chances(seed)
            names = view.names()
            claims = [claims_of(view)[-1], *[("knot", knot) for knot in claims_of(view)[-1][1]][:2], *claims_of(view)[:2]]
            claims += [("knows", names[-1], store.knows_all(names[-1])[0])] if store.knows_all(names[-1]) else []
            claims += [("not known", names[0], names[-1])] if names[-1] not in store.knows_all(names[0]) else []
            for claim in claims:
                paper = paper_for(view, claim)
                self.assertIsNone(self.see(told(store), names, claim, paper))
                for changed in self.changes(paper, some):
                    due = self.see(told(store), names, claim, changed)
                    seen[due is None] = seen.get(due is None, 0) + 1
        self.assertGreater(seen[True], 300)
        self.assertGreater(seen[False], 3000)

    def test_changed_claims_and_names(self):
        for seed in range(6):
            store = line_web(seed, 5)
            view, some = View(store, store.names()), chances(seed)
            for claim in claims_of(view)[-1:] + [("ahead", HEAD, FOOT), ("not ahead", FOOT, HEAD)]:
                paper = paper_for(view, claim)
                for _ in range(8):
                    for other in self.other_things(claim, some):
                        self.see(told(store), view.names(), other, paper)
                    for names in self.other_things(view.names(), some):
                        self.see(told(store), names, claim, paper)

    def test_papers_of_other_sets(self):
        for seed in range(6):
            store = line_web(seed, 6)
            claim = claims_of(View(store, store.names()))[-1]
            paper = paper_for(View(store, store.names()), claim)
            for name in store.names():
                self.see(told(store), store.closed_by([name]), claim, paper)
                other = View(store, store.closed_by([name]))
                some = claims_of(other)[-1]
                self.see(told(store), store.names(), some, paper_for(other, some))
