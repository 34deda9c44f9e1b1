"""[90] to [93]: tops, what is under names, logs, what a head lacks, what two have in common, rows that lead."""

from itertools import permutations, product

from manyheads.errors import NotClosed, OutOfPlace
from manyheads.sets import common, knowing_row, lacking_log, log_of, tops, under
from helpers import ANYTHING, EQUALS, Case, all_known, chances, ladder, put_all, putting, told_of, web

A1, A2, A3, B1, B2, C1, D1 = ("a", 1), ("a", 2), ("a", 3), ("b", 1), ("b", 2), ("c", 1), ("d", 1)
ABSENT = ("z", 9)

# a.1 < b.1 < a.2 < c.1, a.1 < b.2 < c.1, c.1 < a.3; d.1 alone.
WEB = [(A1, []), (D1, []), (B1, [A1]), (B2, [A1]), (A2, [B1]), (C1, [A2, B2]), (A3, [C1])]
NO_NAMES = [thing for thing in ANYTHING if thing != []] + [[thing] for thing in EQUALS] + [
    (A1,), [ABSENT], [A1, ABSENT], [B1, ABSENT], A1, {A1: True}, [A1, None], [list(A1)], [A1, [A1]], [[A1]]]


def store_of(made):
    return put_all([putting(name, knows) for name, knows in made])


def is_log(made, row):
    """Whether in a row each name stands behind all that it knows."""
    return all(known in row[:at] for at, name in enumerate(row) for known in all_known(made, [name]))


def rows_between(made, one, other):
    """All rows that lead from a patch to another one."""
    if one == other:
        return [[one]]
    return [[one] + row for known in made[one] for row in rows_between(made, known, other)]


class SetsCase(Case):

    def setUp(self):
        self.store = store_of(WEB)
        self.before = told_of(self.store)

    def tearDown(self):
        # Whatever was asked, the store stays as it was.
        self.assertEqual(told_of(self.store), self.before)


class Tops(SetsCase):

    def test_tops(self):
        for names, due in (([], []), ([A1], [A1]), ([A1, B1], [B1]), ([B1, B2], [B1, B2]), ([D1, A1], [A1, D1]),
                           ([A1, A2, B1, B2, C1, D1, A3], [A3, D1]), ([B2, A2, A1], [A2, B2]), ([C1, D1, B2], [C1, D1])):
            self.assertEqual(tops(self.store, names), due)

    def test_ways_through_others_count(self):
        for names, due in (([A1, A2], [A2]), ([A3, A1], [A3]), ([B1, C1], [C1]), ([A3, B2, D1], [A3, D1]), ([A1, C1], [C1])):
            self.assertEqual(tops(self.store, names), due)

    def test_a_name_told_twice(self):
        self.assertEqual(tops(self.store, [B1, A1, B1, A1]), [B1])
        self.assertEqual(tops(self.store, [D1, D1]), [D1])
        self.assertEqual(under(self.store, [B1, B1]), [A1])

    def test_under(self):
        for names, due in (([], []), ([A1], []), ([D1, A1], []), ([B1], [A1]), ([A2], [A1, B1]), ([B1, A1], [A1]),
                           ([A2, B1], [A1, B1]), ([C1], [A1, A2, B1, B2]), ([B2, A2], [A1, B1]), ([C1, A2], [A1, A2, B1, B2]),
                           ([A3, C1, D1], [A1, A2, B1, B2, C1])):
            self.assertEqual(under(self.store, names), due)

    def test_names_rise_as_tuples(self):
        store = store_of([(("b", 10), []), (("b", 9), []), (("ab", 3), []), (("a", 100), [("ab", 3), ("b", 9), ("b", 10)])])
        self.assertEqual(tops(store, [("b", 10), ("b", 9), ("ab", 3)]), [("ab", 3), ("b", 9), ("b", 10)])
        self.assertEqual(under(store, [("a", 100)]), [("ab", 3), ("b", 9), ("b", 10)])

    def test_webs(self):
        for seed in range(40):
            made = web(seed, 18)
            store = store_of(made.items())
            some = chances(seed)
            for _ in range(10):
                names = [list(made)[next(some) % 18] for _ in range(next(some) % 7)]
                known = all_known(made, names)
                self.assertEqual(under(store, names), sorted(known))
                self.assertEqual(tops(store, names), sorted(set(names) - known))

    def test_many_ways(self):
        store = ladder(300)
        self.assertEqual(tops(store, store.names()), [("a", 300), ("b", 300)])
        self.assertEqual(len(under(store, [("b", 300)])), 598)
        self.assertEqual(log_of(store, store.names())[:5], [("a", 1), ("b", 1), ("a", 2), ("b", 2), ("a", 3)])

    def test_refused(self):
        for names in NO_NAMES:
            for act in (tops, under, log_of):
                self.refused(OutOfPlace, {}, act, self.store, names)

    def test_what_is_handed_in_and_told_is_not_kept(self):
        names = [B1, A1, A1]
        for act, due in ((tops, [B1]), (under, [A1])):
            act(self.store, names).append("more")
            self.assertEqual(act(self.store, names), due)
        self.assertEqual(names, [B1, A1, A1])
        log_of(self.store, names).clear()
        self.assertEqual(log_of(self.store, names), [A1, B1])
        self.assertEqual(names, [B1, A1, A1])


class Logs(SetsCase):

    def test_log(self):
        for names, due in (([], []), ([D1], [D1]), ([D1, A1], [A1, D1]), ([A2, B1, A1], [A1, B1, A2]),
                           ([A1, B1, B2, D1], [A1, B1, B2, D1]), ([A1, A2, B1, B2, D1], [A1, B1, A2, B2, D1]),
                           (self.store.names(), [A1, B1, A2, B2, C1, A3, D1])):
            self.assertEqual(log_of(self.store, names), due)
            self.assertEqual(log_of(self.store, names[::-1] + names), due)

    def test_names_that_rise_otherwise_than_they_know(self):
        store = store_of([(("c", 3), []), (("b", 7), [("c", 3)]), (("a", 9), [("b", 7)]), (("a", 5), [("c", 3)]), (("d", 1), [])])
        self.assertEqual(log_of(store, store.names()), [("c", 3), ("a", 5), ("b", 7), ("a", 9), ("d", 1)])
        self.assertEqual(log_of(store, [("a", 9), ("b", 7), ("c", 3), ("d", 1)]), [("c", 3), ("b", 7), ("a", 9), ("d", 1)])

    def test_not_closed(self):
        for names, lacking in (([B1], [A1]), ([A2], [A1, B1]), ([A3, D1], [A1, A2, B1, B2, C1]), ([A3, B1, A3], [A1, A2, B2, C1]),
                               ([A2, B2, A1], [B1])):
            self.refused(NotClosed, {"lacking": lacking}, log_of, self.store, names)

    def test_the_least_of_all_rows(self):
        for seed in range(25):
            made = web(seed, 6)
            store = store_of(made.items())
            due = min(row for row in permutations(made) if is_log(made, row))
            self.assertEqual(log_of(store, list(made)), list(due))

    def test_the_least_first(self):
        for seed in range(25):
            made = web(seed, 22)
            store = store_of(made.items())
            some = list(made)[seed % 5::5]
            names = sorted(set(some) | all_known(made, some))
            row, left = [], list(names)
            while left:
                row.append(min(name for name in left if all_known(made, [name]) <= set(row)))
                left.remove(row[-1])
            self.assertEqual(log_of(store, names), row)

    def test_sets_alone_tell_the_log(self):
        made = web(3, 20)
        other = store_of(sorted(made.items(), key=lambda row: (len(all_known(made, [row[0]])), row[0])))
        store = store_of(made.items())
        self.assertEqual(log_of(store, list(made)), log_of(other, list(made)))


class Heads(SetsCase):

    def setUp(self):
        self.store = store_of(WEB)
        for head, names in (("main", [A1, A2, B1]), ("side", [A1, B2, D1]), ("none", []), ("all", [name for name, _ in WEB])):
            self.store.set_head(head, names)
        self.before = told_of(self.store)

    def test_lacking(self):
        for head, other, due in (("main", "side", [B2, D1]), ("side", "main", [B1, A2]), ("none", "main", [A1, B1, A2]),
                                 ("main", "none", []), ("main", "main", []), ("none", "none", []), ("all", "side", []),
                                 ("main", "all", [B2, C1, A3, D1]), ("side", "all", [B1, A2, C1, A3])):
            self.assertEqual(lacking_log(self.store, head, other), due)

    def test_common(self):
        for head, other, due in (("main", "side", [A1]), ("side", "main", [A1]), ("main", "main", [A1, A2, B1]), ("none", "all", []),
                                 ("all", "main", [A1, A2, B1]), ("none", "none", []), ("side", "all", [A1, B2, D1])):
            self.assertEqual(common(self.store, head, other), due)
            self.store.set_head("both", common(self.store, head, other))
            self.store.drop_head("both")

    def test_refused(self):
        for act in (lacking_log, common):
            for thing in ANYTHING + EQUALS + ["absent", ["main"]]:
                self.refused(OutOfPlace, {}, act, self.store, thing, "main")
                self.refused(OutOfPlace, {}, act, self.store, "main", thing)
                self.refused(OutOfPlace, {}, act, self.store, thing, thing)

    def test_webs(self):
        for seed in range(20):
            made = web(seed, 20)
            store = store_of(made.items())
            for head, step in (("one", 6), ("two", 7)):
                store.set_head(head, store.closed_by(list(made)[seed % step::step]))
            one, two = store.head_set("one"), store.head_set("two")
            self.assertEqual(lacking_log(store, "one", "two"), [name for name in log_of(store, two) if name not in one])
            self.assertEqual(common(store, "one", "two"), sorted(set(one) & set(two)))

    def test_what_is_told_is_the_askers_own(self):
        lacking_log(self.store, "main", "all").clear()
        common(self.store, "main", "all").clear()
        self.assertEqual(lacking_log(self.store, "main", "all"), [B2, C1, A3, D1])
        self.assertEqual(common(self.store, "main", "all"), [A1, A2, B1])


class Rows(SetsCase):

    def test_rows(self):
        for one, other, row in ((B1, A1, [B1, A1]), (A2, A1, [A2, B1, A1]), (C1, A1, [C1, B2, A1]), (C1, B1, [C1, A2, B1]),
                                (A3, A1, [A3, C1, B2, A1]), (A3, B1, [A3, C1, A2, B1])):
            self.assertEqual(knowing_row(self.store, one, other), row)

    def test_none(self):
        for one, other in ((A1, A1), (C1, C1), (A1, B1), (B1, B2), (D1, A1), (A3, D1), (A2, B2), (D1, D1)):
            self.assertIsNone(knowing_row(self.store, one, other))

    def test_of_several_shortest_the_least(self):
        made = {("a", 1): [], ("b", 1): [("a", 1)], ("b", 2): [("a", 1)], ("a", 9): [("b", 2)], ("c", 1): [("b", 1)],
                ("c", 2): [("b", 1), ("b", 2)], ("c", 10): [("b", 1)], ("d", 1): [("c", 2), ("c", 10)],
                ("d", 2): [("a", 9), ("c", 1)], ("e", 1): [("d", 1), ("d", 2)]}
        store = store_of(made.items())
        self.assertEqual(knowing_row(store, ("e", 1), ("a", 1)), [("e", 1), ("d", 1), ("c", 2), ("b", 1), ("a", 1)])
        self.assertEqual(knowing_row(store, ("d", 2), ("a", 1)), [("d", 2), ("a", 9), ("b", 2), ("a", 1)])

    def test_webs(self):
        for seed in range(12):
            made = web(seed, 16)
            store = store_of(made.items())
            for one, other in product(made, made):
                rows = rows_between(made, one, other) if one != other else []
                self.assertEqual(knowing_row(store, one, other), min(rows, key=lambda row: (len(row), row), default=None))

    def test_many_ways(self):
        self.assertEqual(knowing_row(ladder(300), ("b", 300), ("b", 1)),
                         [("b", 300)] + [("a", level) for level in range(299, 1, -1)] + [("b", 1)])

    def test_refused(self):
        for thing in ANYTHING + EQUALS + [ABSENT, list(A1), [A1]]:
            self.refused(OutOfPlace, {}, knowing_row, self.store, thing, A1)
            self.refused(OutOfPlace, {}, knowing_row, self.store, C1, thing)
            self.refused(OutOfPlace, {}, knowing_row, self.store, thing, thing)

    def test_what_is_told_is_the_askers_own(self):
        knowing_row(self.store, C1, A1).clear()
        self.assertEqual(knowing_row(self.store, C1, A1), [C1, B2, A1])
