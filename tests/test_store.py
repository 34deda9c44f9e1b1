"""[20] to [23]: what is known altogether, the store and its heads."""

from manyheads.errors import BadPatch, Hindered, NotClosed, OutOfPlace, Unlike
from manyheads.patch import Patch
from manyheads.store import Store
from helpers import ANYTHING, EQUALS, Case, FOOT, HEAD, all_known, ladder, put_all, putting, told_of, web

A1, A2, A3, B1, B2, C1, D1 = ("a", 1), ("a", 2), ("a", 3), ("b", 1), ("b", 2), ("c", 1), ("d", 1)
ABSENT = ("z", 9)

# a.1 < b.1 < a.2 < c.1, a.1 < b.2 < c.1, c.1 < a.3; d.1 alone.
WEB = [(A1, []), (D1, []), (B1, [A1]), (B2, [A1]), (A2, [B1]), (C1, [A2, B2]), (A3, [C1])]


class StoreCase(Case):

    def setUp(self):
        self.store = put_all([putting(name, knows) for name, knows in WEB])

    def refused_alike(self, kind, fields, act, *things):
        """See that a call is refused, and changes nothing."""
        before = told_of(self.store)
        error = self.refused(kind, fields, act, *things)
        self.assertEqual(told_of(self.store), before)
        return error


class Putting(StoreCase):

    def test_empty(self):
        store = Store()
        self.assertEqual((store.names(), store.heads(), store.closed_by([]), store.sweep([])), ([], [], [], []))
        self.refused(OutOfPlace, {}, store.patch_of, A1)

    def test_names(self):
        self.assertEqual(self.store.names(), [A1, A2, A3, B1, B2, C1, D1])
        for name, knows in WEB:
            self.assertEqual(self.store.patch_of(name).told(), putting(name, knows).told())
            self.assertIsInstance(self.store.patch_of(name), Patch)

    def test_names_rise_as_tuples(self):
        store = put_all([putting(name) for name in (("b", 2), ("b", 10), ("ab", 3), ("b", 9), ("a", 100))])
        self.assertEqual(store.names(), [("a", 100), ("ab", 3), ("b", 2), ("b", 9), ("b", 10)])

    def test_the_same_again(self):
        before = told_of(self.store)
        for name, knows in WEB:
            self.assertIsNone(self.store.put_patch(putting(name, knows)))
        self.assertEqual(told_of(self.store), before)

    def test_no_patch(self):
        for thing in ANYTHING + EQUALS + [putting(A1).told(), Patch, [putting(A1)], Store()]:
            self.refused_alike(OutOfPlace, {}, self.store.put_patch, thing)

    def test_unlike(self):
        for other in (putting(B1), putting(B1, [A1], ["y"]), Patch(B1, [A1], []), putting(B1, [A1, ABSENT]),
                      Patch(B1, [A1], [("cut", ("z", 9, 1))]), putting(B1, [A1, B2])):
            self.refused_alike(Unlike, {"name": B1}, self.store.put_patch, other)

    def test_not_closed(self):
        new = ("n", 1)
        for knows, lacking in (([ABSENT], [ABSENT]), ([A1, B2, ABSENT], [ABSENT]),
                               ([("a", 4), B1, ("b", 3), ("z", 1)], [("a", 4), ("b", 3), ("z", 1)])):
            self.refused_alike(NotClosed, {"lacking": lacking}, self.store.put_patch, putting(new, knows))
            bad = Patch(new, knows, [("cut", ("d", 1, 1))])
            self.refused_alike(NotClosed, {"lacking": lacking}, self.store.put_patch, bad)

    def test_lines_that_are_not_known(self):
        new = ("n", 1)
        known, more, unknown = ("a", 1, 1), ("a", 1, 2), ("d", 1, 1)
        put = ("put", HEAD, FOOT, ("x",))
        own = ("n", 1, 1)
        for deeds, deed in (
                ([("cut", unknown)], 1), ([("keep", unknown)], 1), ([("order", known, unknown)], 1),
                ([("order", unknown, known)], 1), ([("put", unknown, FOOT, ("x",))], 1),
                ([("put", HEAD, unknown, ("x",))], 1), ([put, ("cut", known), ("cut", unknown)], 3),
                ([("cut", more)], 1), ([put, ("keep", more), ("cut", unknown)], 2), ([("cut", ("z", 9, 1))], 1),
                ([("order", ("b", 1, 1), ("b", 2, 1)), ("cut", ("a", 2, 1)), ("cut", ("c", 1, 1))], 3),
                ([put, ("cut", own), ("order", own, unknown)], 3), ([("cut", ("a", 1, 10 ** 30))], 1)):
            self.refused_alike(BadPatch, {"deed": deed}, self.store.put_patch, Patch(new, [A2, B2], deeds))
        self.refused_alike(BadPatch, {"deed": 1}, self.store.put_patch, Patch(new, [], [("cut", known)]))
        good = [put, ("cut", known), ("cut", own), ("order", ("b", 1, 1), known), ("put", ("b", 2, 1), own, ("y",)),
                ("put", HEAD, ("a", 2, 1), ("z",))]
        self.store.put_patch(Patch(new, [A2, B2], good))
        self.assertEqual(self.store.patch_of(new).told(), (new, [A2, B2], good))

    def test_lines_known_through_many_others(self):
        patches = [putting(("a", 1), texts=["x", "y"])]
        patches += [Patch(("a", k), [("a", k - 1)], [("cut", ("a", 1, 1 + k % 2))]) for k in range(2, 600)]
        store = put_all(patches)
        self.assertEqual(store.knows_all(("a", 599)), [("a", k) for k in range(1, 599)])
        self.refused(BadPatch, {"deed": 1}, store.put_patch, Patch(("b", 1), [("a", 599)], [("cut", ("a", 1, 3))]))

    def test_known_altogether(self):
        for name, known in ((A1, []), (D1, []), (B1, [A1]), (A2, [A1, B1]), (B2, [A1]), (C1, [A1, A2, B1, B2]),
                            (A3, [A1, A2, B1, B2, C1])):
            self.assertEqual(self.store.knows_all(name), known)
        for thing in ANYTHING + EQUALS + [ABSENT, list(A1)]:
            self.refused_alike(OutOfPlace, {}, self.store.knows_all, thing)
            self.refused_alike(OutOfPlace, {}, self.store.patch_of, thing)

    def test_many_ways(self):
        store = ladder(300)
        self.assertEqual(len(store.knows_all(("a", 300))), 598)
        self.assertEqual(len(store.closed_by([("b", 300)])), 599)

    def test_closed_by(self):
        for names, closed in (([], []), ([A1], [A1]), ([D1, A1, D1], [A1, D1]), ([B2], [A1, B2]),
                              ([A2, D1], [A1, A2, B1, D1]), ([C1], [A1, A2, B1, B2, C1]), ([A1, C1, A1], [A1, A2, B1, B2, C1])):
            self.assertEqual(self.store.closed_by(names), closed)
        for thing in [thing for thing in ANYTHING if thing != []] + [[thing] for thing in EQUALS] + [
                (A1,), [ABSENT], [A1, ABSENT], A1, [list(A1)]]:
            self.refused_alike(OutOfPlace, {}, self.store.closed_by, thing)

    def test_webs(self):
        for seed in range(30):
            made = web(seed, 25)
            store = put_all([putting(name, knows) for name, knows in made.items()])
            for name in made:
                self.assertEqual(store.knows_all(name), sorted(all_known(made, [name])))
            some = list(made)[seed % 5::5]
            self.assertEqual(store.closed_by(some), sorted(set(some) | all_known(made, some)))

    def test_what_is_handed_in_and_told_is_not_kept(self):
        before = told_of(self.store)
        for told in (self.store.names(), self.store.knows_all(A3), self.store.closed_by([A3]), self.store.heads(),
                     self.store.patch_of(A3).told()[1], self.store.patch_of(A3).told()[2]):
            told.append("more")
            told.reverse()
        self.assertEqual(told_of(self.store), before)
        names = [C1]
        self.store.closed_by(names)
        self.assertEqual(names, [C1])
        knows = [A1]
        self.store.put_patch(Patch(("n", 1), knows, []))
        knows.append(A2)
        self.assertEqual(self.store.knows_all(("n", 1)), [A1])

    def test_what_was_told_stays(self):
        names, known = self.store.names(), self.store.knows_all(C1)
        self.store.put_patch(putting(("n", 1), [C1]))
        self.assertEqual((names, known), ([A1, A2, A3, B1, B2, C1, D1], [A1, A2, B1, B2]))


class Heads(StoreCase):

    def setUp(self):
        StoreCase.setUp(self)
        self.store.set_head("main", [A1, B1, A2])
        self.store.set_head("side", [B2, A1])
        self.store.set_head("none", [])
        self.store.set_head("all", [A1, A2, A3, B1, B2, C1, D1])

    def test_set(self):
        self.assertEqual(self.store.heads(), ["all", "main", "none", "side"])
        self.assertEqual(self.store.head_set("main"), [A1, A2, B1])
        self.assertEqual(self.store.head_set("side"), [A1, B2])
        self.assertEqual(self.store.head_set("none"), [])
        self.assertIsNone(self.store.set_head("side", [D1, A1, D1, A1]))
        self.assertEqual(self.store.head_set("side"), [A1, D1])
        for head in ("head", "foot", "abcdefgh"):
            self.store.set_head(head, [])
            self.assertEqual(self.store.head_set(head), [])

    def test_set_refused(self):
        for head in ANYTHING + EQUALS + ["Main", "main1", "abcdefghi", ["main"]]:
            self.refused_alike(OutOfPlace, {}, self.store.set_head, head, [A1])
            self.refused_alike(OutOfPlace, {}, self.store.set_head, head, [B1])
        for names in [thing for thing in ANYTHING if thing != []] + [[thing] for thing in EQUALS] + [
                (A1,), [ABSENT], [A1, ABSENT], [B1, ABSENT], A1, [A1, None], {A1: True}, [A1, list(A1)]]:
            self.refused_alike(OutOfPlace, {}, self.store.set_head, "main", names)
            self.refused_alike(OutOfPlace, {}, self.store.set_head, "new", names)
        for names, lacking in (([B1], [A1]), ([A1, C1], [A2, B1, B2]), ([A3, B2, A3], [A1, A2, B1, C1]),
                               ([D1, A2], [A1, B1])):
            self.refused_alike(NotClosed, {"lacking": lacking}, self.store.set_head, "main", names)
            self.refused_alike(NotClosed, {"lacking": lacking}, self.store.set_head, "new", names)

    def test_drop(self):
        self.assertIsNone(self.store.drop_head("main"))
        self.assertEqual(self.store.heads(), ["all", "none", "side"])
        for head in ("main", "absent", "Main"):
            self.refused_alike(OutOfPlace, {}, self.store.drop_head, head)
            self.refused_alike(OutOfPlace, {}, self.store.head_set, head)

    def test_merge(self):
        self.assertIsNone(self.store.merge_heads("main", "side"))
        self.assertEqual(self.store.head_set("main"), [A1, A2, B1, B2])
        self.assertEqual(self.store.head_set("side"), [A1, B2])
        self.store.merge_heads("none", "none")
        self.assertEqual(self.store.head_set("none"), [])
        self.store.merge_heads("side", "none")
        self.assertEqual(self.store.head_set("side"), [A1, B2])
        self.store.merge_heads("none", "side")
        self.assertEqual(self.store.head_set("none"), [A1, B2])

    def test_merge_refused(self):
        for head in ANYTHING + EQUALS + ["absent"]:
            self.refused_alike(OutOfPlace, {}, self.store.merge_heads, "main", head)
            self.refused_alike(OutOfPlace, {}, self.store.merge_heads, head, "main")

    def test_pick(self):
        self.assertIsNone(self.store.pick("side", A2))
        self.assertEqual(self.store.head_set("side"), [A1, A2, B1, B2])
        self.store.pick("side", A2)
        self.store.pick("side", A1)
        self.assertEqual(self.store.head_set("side"), [A1, A2, B1, B2])
        self.store.pick("none", A3)
        self.assertEqual(self.store.head_set("none"), [A1, A2, A3, B1, B2, C1])
        self.store.pick("none", D1)
        self.assertEqual(self.store.head_set("none"), [A1, A2, A3, B1, B2, C1, D1])
        for thing in ANYTHING + EQUALS + [ABSENT, [A1], list(A1)]:
            self.refused_alike(OutOfPlace, {}, self.store.pick, "main", thing)
            self.refused_alike(OutOfPlace, {}, self.store.pick, thing, A1)
        self.refused_alike(OutOfPlace, {}, self.store.pick, "absent", A1)

    def test_take_out(self):
        for name, knowing in ((A1, [A2, B1]), (B1, [A2])):
            self.refused_alike(Hindered, {"knowing": knowing}, self.store.take_out, "main", name)
        for name, knowing in ((A1, [A2, A3, B1, B2, C1]), (B1, [A2, A3, C1]), (B2, [A3, C1]), (C1, [A3])):
            self.refused_alike(Hindered, {"knowing": knowing}, self.store.take_out, "all", name)
        self.assertIsNone(self.store.take_out("main", A2))
        self.assertEqual(self.store.head_set("main"), [A1, B1])
        self.store.take_out("main", B1)
        self.store.take_out("main", A1)
        self.assertEqual(self.store.head_set("main"), [])
        self.store.take_out("all", D1)
        self.assertEqual(self.store.head_set("all"), [A1, A2, A3, B1, B2, C1])

    def test_take_with(self):
        self.assertIsNone(self.store.take_with("all", B1))
        self.assertEqual(self.store.head_set("all"), [A1, B2, D1])
        self.store.take_with("all", D1)
        self.assertEqual(self.store.head_set("all"), [A1, B2])
        self.store.take_with("all", A1)
        self.assertEqual(self.store.head_set("all"), [])
        self.assertEqual(self.store.head_set("main"), [A1, A2, B1])
        self.store.take_with("main", A2)
        self.assertEqual(self.store.head_set("main"), [A1, B1])

    def test_take_refused(self):
        for act in (self.store.take_out, self.store.take_with):
            for thing in ANYTHING + EQUALS + [ABSENT, B2, C1, D1, [A2], list(A2)]:
                self.refused_alike(OutOfPlace, {}, act, "main", thing)
                self.refused_alike(OutOfPlace, {}, act, thing, A2)
            self.refused_alike(OutOfPlace, {}, act, "none", A1)
            self.refused_alike(OutOfPlace, {}, act, "absent", A1)

    def test_head_of_anything(self):
        for thing in ANYTHING:
            self.refused_alike(OutOfPlace, {}, self.store.head_set, thing)
            self.refused_alike(OutOfPlace, {}, self.store.drop_head, thing)

    def test_taking_in_webs(self):
        for seed in range(20):
            made = web(seed, 20)
            store = put_all([putting(name, knows) for name, knows in made.items()])
            names = store.closed_by(list(made)[seed % 4::4])
            for name in names:
                store.set_head("main", names)
                knowing = [other for other in names if name in all_known(made, [other])]
                if knowing:
                    self.refused(Hindered, {"knowing": knowing}, store.take_out, "main", name)
                    store.take_with("main", name)
                else:
                    store.take_out("main", name)
                left = [other for other in names if other != name and other not in knowing]
                self.assertEqual(store.head_set("main"), left)

    def test_what_is_handed_in_and_told_is_not_kept(self):
        names = [B2, A1, A1]
        self.store.set_head("main", names)
        names.append(D1)
        self.assertEqual(names, [B2, A1, A1, D1])
        told = self.store.head_set("main")
        self.store.heads().clear()
        self.assertEqual(told, [A1, B2])
        self.store.pick("main", A2)
        self.assertEqual(told, [A1, B2])
        told.clear()
        self.assertEqual(self.store.head_set("main"), [A1, A2, B1, B2])
        error = self.refused(Hindered, {}, self.store.take_out, "main", A1)
        error.knowing.clear()
        self.refused(Hindered, {"knowing": [A2, B1, B2]}, self.store.take_out, "main", A1)


class Sweeping(StoreCase):

    def test_sweep(self):
        self.store.set_head("main", [A1, B2])
        self.assertEqual(self.store.sweep([[A1, B1], [], [A1, B1, B1]]), [A2, A3, C1, D1])
        self.assertEqual(self.store.names(), [A1, B1, B2])
        self.assertEqual(self.store.sweep([[A1, B1]]), [])
        self.assertEqual(self.store.sweep([]), [B1])
        self.assertEqual(self.store.head_set("main"), [A1, B2])
        self.store.drop_head("main")
        self.assertEqual(self.store.sweep([[], []]), [A1, B2])
        self.assertEqual(self.store.names(), [])

    def test_what_stays_is_as_it_was(self):
        for seed in range(20):
            made = web(seed, 20)
            store = put_all([putting(name, knows) for name, knows in made.items()])
            names = list(made)
            store.set_head("main", store.closed_by(names[seed % 4::6]))
            other = store.copied()
            before = told_of(other)
            more = store.closed_by(names[seed % 5:seed % 5 + 2])
            stay = sorted(set(store.head_set("main")) | set(more))
            due = put_all([putting(name, made[name]) for name in made if name in stay])
            due.set_head("main", store.head_set("main"))
            self.assertEqual(store.sweep([more]), sorted(set(names) - set(stay)))
            self.assertEqual(told_of(store), told_of(due))
            self.assertEqual(told_of(other), before)
            for one in (store, due):
                one.put_patch(putting(("n", 1), sorted(stay)[::2]))
                one.pick("main", ("n", 1))
                one.put_patch(putting(("n", 2), [("n", 1)]))
            self.assertEqual(told_of(store), told_of(due))

    def test_swept_names_can_come_again(self):
        self.store.sweep([[A1]])
        for name in (B1, D1):
            self.refused_alike(OutOfPlace, {}, self.store.patch_of, name)
        self.refused_alike(NotClosed, {"lacking": [B1]}, self.store.put_patch, putting(A2, [B1]))
        self.store.put_patch(putting(B1, [], ["another"]))
        self.store.put_patch(putting(D1, [A1, B1]))
        self.store.put_patch(putting(A2, [D1]))
        self.assertEqual(self.store.knows_all(A2), [A1, B1, D1])
        self.store.set_head("main", [A1, A2, B1, D1])
        self.refused_alike(Hindered, {"knowing": [A2, D1]}, self.store.take_out, "main", B1)

    def test_refused(self):
        self.store.set_head("main", [A1])
        for more in [thing for thing in ANYTHING if thing not in ([], [[]])] + [[[thing]] for thing in EQUALS] + [
                [A1], [[A1], (A1,)], ([A1],), [[A1], [ABSENT]], [[B1], [ABSENT]], [[B1], None], {}, [[A1, [A1]]]]:
            self.refused_alike(OutOfPlace, {}, self.store.sweep, more)
        for more, lacking in (([[B1]], [A1]), ([[A1], [D1, C1], [B1]], [A1, A2, B1, B2]), ([[], [B2], [C1]], [A1]),
                              ([[A1, A2, A2]], [B1])):
            self.refused_alike(NotClosed, {"lacking": lacking}, self.store.sweep, more)

    def test_what_is_handed_in_and_told_is_not_kept(self):
        more = [[A1], [A1, B1]]
        names = self.store.names()
        gone = self.store.sweep(more)
        self.assertEqual(more, [[A1], [A1, B1]])
        self.assertEqual(names, [A1, A2, A3, B1, B2, C1, D1])
        gone.clear()
        names.clear()
        self.assertEqual(self.store.names(), [A1, B1])

    def test_copied(self):
        self.store.set_head("main", [A1, B1])
        self.store.set_head("side", [D1])
        other = self.store.copied()
        self.assertIsInstance(other, Store)
        self.assertEqual(told_of(other), told_of(self.store))
        before = told_of(self.store)
        other.put_patch(putting(("n", 1)))
        other.pick("main", A3)
        other.drop_head("side")
        other.set_head("new", [])
        self.assertEqual(other.sweep([]), [D1, ("n", 1)])
        self.assertEqual(told_of(self.store), before)
        kept = told_of(other)
        self.store.set_head("main", [])
        self.store.put_patch(putting(("n", 2)))
        self.store.sweep([])
        self.assertEqual(told_of(other), kept)
        self.assertEqual(self.store.names(), [D1])
