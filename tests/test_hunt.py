"""[100] to [104]: pairs, leads, classes, questions, and the papers that hunts tell."""

from manyheads.errors import BadHunt, OutOfPlace
from manyheads.hunt import Hunt, hunt_paper, lead_of
from manyheads.huntcheck import check_hunt
from helpers import ANYTHING, EQUALS, Case, chances, put_all, putting, told_of
from plainhunt import hunt_web, least_power, told

A1, A2, A3, B1, B2, C1, D1 = ("a", 1), ("a", 2), ("a", 3), ("b", 1), ("b", 2), ("c", 1), ("d", 1)
ABSENT = ("z", 9)

# a.1 < b.1 < a.2 < c.1, a.1 < b.2 < c.1, c.1 < a.3; d.1 alone.
WEB = [(A1, []), (D1, []), (B1, [A1]), (B2, [A1]), (A2, [B1]), (C1, [A2, B2]), (A3, [C1])]
ALL = [A1, A2, A3, B1, B2, C1, D1]
NO_NAMES = [thing for thing in ANYTHING if thing != []] + [[thing] for thing in EQUALS] + [
    (A1,), [ABSENT], [A1, ABSENT], A1, {A1: True}, [A1, None], [list(A1)], [[A1]]]
NO_PAIRS = [thing for thing in ANYTHING if thing != []] + [
    ((A1, B1),), [[A1, B1]], [(A1, A1)], [(A1, B1), (B1, B1)], [(A1, ABSENT)], [(ABSENT, A1)], [(A1,)], [(A1, B1, C1)], [A1],
    [(A1, ("b", True))], [(("a", True), B1)], [(A1, list(B1))], [(list(A1), B1)], [(A1, None)], {A1: B1}, [(A1, B1), None], (A1, B1),
    [[(A1, B1)]]]


class HuntCase(Case):

    def setUp(self):
        self.store = put_all([putting(name, knows) for name, knows in WEB])
        self.before = told_of(self.store)

    def tearDown(self):
        self.assertEqual(told_of(self.store), self.before)


class Leads(HuntCase):

    def test_without_pairs(self):
        for names in ([], [A1], [C1], [B1, D1], [A3, A3], [D1, B2]):
            self.assertEqual(lead_of(self.store, [], names), self.store.closed_by(names))

    def test_menders(self):
        # Menders of menders, and what these know: b.1 needs d.1, which needs b.2, which knows a.1.
        pairs = [(B1, D1), (D1, B2)]
        for names, due in (([], []), ([A1], [A1]), ([B2], [A1, B2]), ([D1], [A1, B2, D1]), ([B1], [A1, B1, B2, D1]),
                           ([A2], [A1, A2, B1, B2, D1]), ([D1, B1], [A1, B1, B2, D1])):
            self.assertEqual(lead_of(self.store, pairs, names), due)
        self.assertEqual(lead_of(self.store, [(A1, A3)], [B1]), [A1, A2, A3, B1, B2, C1])
        self.assertEqual(lead_of(self.store, [(D1, A1), (D1, B2), (D1, B2)], [D1]), [A1, B2, D1])

    def test_pairs_in_rings(self):
        for names in ([A1], [D1], [D1, A1]):
            self.assertEqual(lead_of(self.store, [(A1, D1), (D1, A1)], names), [A1, D1])
        self.assertEqual(lead_of(self.store, [(B1, B2), (B2, B1)], [B2]), [A1, B1, B2])

    def test_refused(self):
        for pairs in NO_PAIRS:
            self.refused(BadHunt, {}, lead_of, self.store, pairs, [A1])
            self.refused(BadHunt, {}, lead_of, self.store, pairs, None)
            self.refused(BadHunt, {}, Hunt, self.store, ALL, [], pairs)
            self.refused(BadHunt, {}, hunt_paper, self.store, ALL, [], pairs)
        for names in NO_NAMES:
            self.refused(OutOfPlace, {}, lead_of, self.store, [(A1, B1)], names)

    def test_webs(self):
        for seed in range(60):
            store, _, _, pairs, plain = hunt_web(seed)
            some = chances(seed)
            for _ in range(6):
                names = [store.names()[next(some) % 12] for _ in range(next(some) % 4)]
                self.assertEqual(lead_of(store, pairs, names), sorted(plain.lead(names)))

    def test_what_is_handed_in_and_told_is_not_kept(self):
        pairs, names = [(B1, D1)], [B1, B1]
        lead_of(self.store, pairs, names).clear()
        self.assertEqual((pairs, names, lead_of(self.store, pairs, names)), ([(B1, D1)], [B1, B1], [A1, B1, D1]))


class Hunts(HuntCase):

    def test_one_class(self):
        for bad, goods, pairs, names in (([A1], [], [], [A1]), ([A1, B1], [[A1]], [], [B1]), (ALL, [[A1, B1, B2, A2, C1], [D1]], [], [A3]),
                                         ([A1, D1], [], [(A1, D1), (D1, A1)], [A1, D1]), ([A1, A1], [[]], [], [A1])):
            hunt = Hunt(self.store, bad, goods, pairs)
            self.assertEqual((hunt.classes(), hunt.question(), hunt.found(), hunt.worst()), ([names], None, names, 0))
            self.refused(OutOfPlace, {}, hunt.back)
            for answer in (True, False, 1, None):
                self.refused(BadHunt, {}, hunt.tell, answer)
            self.assertEqual(hunt.found(), names)

    def test_a_row(self):
        hunt = Hunt(self.store, [A1, A2, A3, B1, B2, C1], [], [])
        self.assertEqual(hunt.classes(), [[A1], [A2], [A3], [B1], [B2], [C1]])
        self.assertEqual((hunt.question(), hunt.found(), hunt.worst()), ([A1, A2, B1], None, 3))
        self.assertIsNone(hunt.tell(False))
        self.assertEqual((hunt.classes(), hunt.question(), hunt.worst()), ([[A3], [B2], [C1]], [A1, A2, B1, B2, C1], 2))
        hunt.tell(True)
        self.assertEqual((hunt.classes(), hunt.question(), hunt.worst()), ([[B2], [C1]], [A1, B2], 1))
        hunt.tell(False)
        self.assertEqual((hunt.classes(), hunt.question(), hunt.found(), hunt.worst()), ([[C1]], None, [C1], 0))

    def test_half_of_an_odd_number(self):
        hunt = Hunt(self.store, [A1, B1, D1], [], [])
        self.assertEqual((hunt.question(), hunt.worst()), ([A1, B1], 2))
        hunt.tell(False)
        self.assertEqual(hunt.found(), [D1])

    def test_the_least_name_first(self):
        store = put_all([putting(name) for name in (("c", 1), ("b", 10), ("b", 9), ("ab", 1))])
        hunt = Hunt(store, store.names(), [], [])
        self.assertEqual(hunt.question(), [("ab", 1), ("b", 9)])
        # The ring of c.1 and ab.1 is taken by its least name.
        hunt = Hunt(store, store.names(), [], [(("c", 1), ("ab", 1)), (("ab", 1), ("c", 1))])
        self.assertEqual(hunt.classes(), [[("ab", 1), ("c", 1)], [("b", 9)], [("b", 10)]])
        self.assertEqual(hunt.question(), [("ab", 1), ("b", 9), ("c", 1)])
        hunt.tell(True)
        self.assertEqual(hunt.question(), [("ab", 1), ("c", 1)])

    def test_a_class_under_another_one(self):
        # a.1 has the least name, but its mender d.1 is under it; so d.1 is taken first.
        hunt = Hunt(self.store, ALL, [], [(A1, D1)])
        self.assertEqual(hunt.question(), [A1, A2, B1, D1])
        hunt = Hunt(self.store, [A1, D1], [], [(A1, D1)])
        self.assertEqual(hunt.question(), [D1])
        hunt.tell(False)
        self.assertEqual(hunt.found(), [A1])

    def test_questions_have_what_good_sets_have(self):
        hunt = Hunt(self.store, ALL, [[A1, B1]], [])
        self.assertEqual(hunt.classes(), [[A2], [A3], [B2], [C1], [D1]])
        self.assertEqual(hunt.question(), [A1, A2, B1, B2, C1])
        hunt = Hunt(self.store, ALL, [[A1, B1], [D1], [A1, B2], []], [])
        self.assertEqual((hunt.classes(), hunt.question()), ([[A2], [A3], [C1]], [A1, A2, B1, B2, C1]))

    def test_a_good_set_beside_the_bad_one(self):
        hunt = Hunt(self.store, [A1, B1], [[A1, B2], [D1]], [])
        self.assertEqual(hunt.found(), [B1])

    def test_question_twice(self):
        hunt = Hunt(self.store, ALL, [], [])
        self.assertEqual(hunt.question(), hunt.question())
        hunt.question().clear()
        self.assertEqual(hunt.question(), [A1, A2, B1, B2])

    def test_no_truth(self):
        hunt = Hunt(self.store, ALL, [], [])
        for thing in [thing for thing in ANYTHING if thing is not True and thing is not False] + [1, 0, "bad"]:
            self.refused(BadHunt, {}, hunt.tell, thing)
            self.assertEqual(hunt.question(), [A1, A2, B1, B2])
        self.refused(OutOfPlace, {}, hunt.back)

    def test_back(self):
        hunt = Hunt(self.store, ALL, [], [])
        seen = [hunt.classes()]
        for answer in (True, False, True):
            if hunt.found() is None:
                hunt.tell(answer)
                seen.append(hunt.classes())
        self.assertIsNotNone(hunt.found())
        while len(seen) > 1:
            seen.pop()
            self.assertIsNone(hunt.back())
            self.assertEqual(hunt.classes(), seen[-1])
        self.refused(OutOfPlace, {}, hunt.back)
        # Answered otherwise.
        hunt.tell(False)
        self.assertEqual(hunt.classes(), [[A3], [C1], [D1]])
        hunt.tell(False)
        self.assertEqual(hunt.found(), [D1])
        hunt.back()
        hunt.tell(True)
        self.assertEqual(hunt.classes(), [[A3], [C1]])

    def test_refused(self):
        for names in NO_NAMES + [[B1], [A1, A3], [D1, B2], [A2, A1]]:
            self.refused(BadHunt, {}, Hunt, self.store, names, [], [])
            self.refused(BadHunt, {}, hunt_paper, self.store, names, [], [])
            self.refused(BadHunt, {}, Hunt, self.store, ALL, [names], [])
            self.refused(BadHunt, {}, hunt_paper, self.store, ALL, [[A1], names], [])
        for goods in [thing for thing in ANYTHING if thing not in ([], [[]])] + [([A1],), [A1], {}, [A1, B1], [(A1,)]]:
            self.refused(BadHunt, {}, Hunt, self.store, ALL, goods, [])
            self.refused(BadHunt, {}, hunt_paper, self.store, ALL, goods, [])

    def test_sets_that_are_not_open(self):
        for act in (Hunt, hunt_paper):
            self.refused(BadHunt, {}, act, self.store, [A1, B1], [], [(B1, D1)])
            self.refused(BadHunt, {}, act, self.store, ALL, [[D1], [A1]], [(A1, D1)])
            act(self.store, [A1, B1, D1], [[D1]], [(B1, D1)])

    def test_no_candidate(self):
        for act in (Hunt, hunt_paper):
            self.refused(BadHunt, {}, act, self.store, [], [], [])
            self.refused(BadHunt, {}, act, self.store, [A1, B1], [[A1, B1]], [])
            self.refused(BadHunt, {}, act, self.store, [A1, D1], [[A1], [D1]], [])

    def test_a_hunt_keeps_what_the_store_held(self):
        bad, goods, pairs = [A1, A1, B1, B2, A2, C1], [[A1]], [(B1, B2), (B2, B1)]
        hunt = Hunt(self.store, bad, goods, pairs)
        paper = hunt_paper(self.store, bad, goods, pairs)
        self.assertEqual((bad, goods, pairs), ([A1, A1, B1, B2, A2, C1], [[A1]], [(B1, B2), (B2, B1)]))
        bad.clear()
        goods[0].clear()
        goods.append([B1])
        pairs.clear()
        names = self.store.names()
        self.store.sweep([])
        self.store.put_patch(putting(A1))
        self.store.put_patch(putting(C1, [A1]))
        self.assertEqual(hunt.classes(), [[A2], [B1, B2], [C1]])
        for names in hunt.classes():
            names.clear()
        hunt.classes().clear()
        self.assertEqual(hunt.question(), [A1, A2, B1, B2])
        hunt.tell(True)
        self.assertEqual(hunt.question(), [A1, B1, B2])
        hunt.tell(True)
        hunt.found().clear()
        self.assertEqual(hunt.found(), [B1, B2])
        self.assertEqual(paper[:2], (2, 3))
        self.setUp()

    def test_refusals_on_a_large_store(self):
        store = put_all([putting(("a", at), [("a", at - 1)] if at > 1 else []) for at in range(1, 200)])
        for bad, goods, pairs in (([("a", 2)], [], []), ([("a", 1)], [], [(("a", 1), ("a", 1))]), ([("a", 1)], [[("a", 1)]], []),
                                  ([("a", 1)], [], [(("a", 1), ("a", 199))])):
            self.refused(BadHunt, {}, Hunt, store, bad, goods, pairs)
            self.refused(BadHunt, {}, hunt_paper, store, bad, goods, pairs)


class Webs(HuntCase):

    def test_each_guilty_candidate(self):
        for seed in range(120):
            store, bad, goods, pairs, plain = hunt_web(seed, 6 + seed % 13)
            for guilty in plain.candidates:
                hunt = Hunt(store, bad, goods, pairs)
                left, asked, worst = plain.classes, 0, hunt.worst()
                self.assertEqual(worst, least_power(len(left)))
                while hunt.found() is None:
                    self.assertEqual(hunt.classes(), left)
                    names, taken = plain.question(left)
                    self.assertEqual(hunt.question(), names)
                    self.assertTrue(plain.is_open(names))
                    self.assertEqual([some for some in left if some[0] in names], [some for some in left if some in taken])
                    is_bad = guilty in names
                    left = [some for some in left if (some[0] in names) == is_bad]
                    hunt.tell(is_bad)
                    asked += 1
                    self.assertLessEqual(asked + hunt.worst(), worst)
                self.assertIn(guilty, hunt.found())
                self.assertIn(hunt.found(), plain.classes)

    def test_papers(self):
        for seed in range(120):
            store, bad, goods, pairs, plain = hunt_web(seed, 6 + seed % 13)
            paper = hunt_paper(store, bad, goods, pairs)
            self.assertEqual(paper, plain.paper())
            self.assertIsNone(check_hunt(told(store), bad, goods, pairs, paper))

    def test_no_open_set_parts_a_class(self):
        for seed in range(24):
            store, bad, goods, pairs, plain = hunt_web(seed, 8)
            for names in plain.all_open():
                for some in Hunt(store, bad, goods, pairs).classes():
                    self.assertIn(len(set(some) & set(names)), (0, len(some)))
