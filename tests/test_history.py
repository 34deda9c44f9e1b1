"""[110] to [112]: histories, trees of undoing."""

from manyheads.errors import BadPatch, Hindered, NotClosed, OutOfPlace, Unlike
from manyheads.history import History, history_of
from manyheads.knowing import View
from manyheads.patch import Patch
from manyheads.sheet import sheet_texts
from manyheads.store import Store
from helpers import ANYTHING, EQUALS, Case, chances, put_all, putting, told_of, web

A1, A2, A3, B1, B2, C1, D1 = ("a", 1), ("a", 2), ("a", 3), ("b", 1), ("b", 2), ("c", 1), ("d", 1)
ABSENT = ("z", 9)
WEB = [(A1, []), (D1, []), (B1, [A1]), (B2, [A1]), (A2, [B1]), (C1, [A2, B2]), (A3, [C1])]


def store_of():
    store = put_all([putting(name, knows) for name, knows in WEB])
    store.set_head("main", [A1, B1])
    store.set_head("side", [])
    return store


def all_told(history):
    """All that a history tells."""
    numbers = range(history.how_many())
    return (history.told(), history.here(), [history.parent(k) for k in numbers], [history.children(k) for k in numbers],
            [history.latest(k) for k in numbers], [list(history.heads_at(k).items()) for k in numbers],
            [told_of(history.store_at(k)) for k in numbers])


class HistoryCase(Case):

    def setUp(self):
        self.store = store_of()
        self.history = History(self.store)

    def refused_alike(self, kind, fields, act, *things):
        """See that a call is refused, and changes nothing."""
        before = all_told(self.history)
        self.refused(kind, fields, act, *things)
        self.assertEqual(all_told(self.history), before)

    def at(self, number, heads):
        """See where the history is, and the heads there."""
        self.assertEqual((self.history.here(), self.history.heads_at(number)), (number, heads))
        self.assertEqual(list(self.history.heads_at(number)), sorted(heads))


class States(HistoryCase):

    def test_state_0(self):
        self.at(0, {"main": [A1, B1], "side": []})
        history = self.history
        self.assertEqual((history.how_many(), history.parent(0), history.children(0), history.latest(0)), (1, None, [], None))
        self.assertEqual(history.told(), (0, ((None, None, (("main", (A1, B1)), ("side", ()))),)))
        self.assertEqual(told_of(history.store_at(0)), told_of(self.store))
        self.assertEqual(History(Store()).told(), (0, ((None, None, ()),)))

    def test_deeds(self):
        history = self.history
        for act, things, heads in (
                (history.set_head, ("new", [A1, A1]), {"main": [A1, B1], "new": [A1], "side": []}),
                (history.set_head, ("main", [D1]), {"main": [D1], "new": [A1], "side": []}),
                (history.pick, ("main", A2), {"main": [A1, A2, B1, D1], "new": [A1], "side": []}),
                (history.merge_heads, ("side", "main"), {"main": [A1, A2, B1, D1], "new": [A1], "side": [A1, A2, B1, D1]}),
                (history.take_out, ("main", A2), {"main": [A1, B1, D1], "new": [A1], "side": [A1, A2, B1, D1]}),
                (history.take_with, ("side", B1), {"main": [A1, B1, D1], "new": [A1], "side": [A1, D1]}),
                (history.drop_head, ("main",), {"new": [A1], "side": [A1, D1]})):
            number = history.how_many()
            self.assertIsNone(act(*things))
            self.at(number, heads)
            self.assertEqual((history.how_many(), history.parent(number), history.latest(number - 1)), (number + 1, number - 1, number))
        self.assertEqual(told_of(self.store), told_of(store_of()))

    def test_deeds_that_change_nothing(self):
        history = self.history
        before = all_told(history)
        for act, things in ((history.set_head, ("main", [B1, A1, B1])), (history.set_head, ("side", [])), (history.pick, ("main", A1)),
                            (history.merge_heads, ("main", "side")), (history.merge_heads, ("main", "main")),
                            (history.merge_heads, ("side", "side")), (history.go, (0,))):
            self.assertIsNone(act(*things))
            self.assertEqual(all_told(history), before)

    def test_back_to_what_was_is_a_state_more(self):
        history = self.history
        history.pick("main", D1)
        history.take_out("main", D1)
        self.assertEqual((history.how_many(), history.here(), history.parent(2)), (3, 2, 1))
        self.assertEqual(history.heads_at(2), history.heads_at(0))
        history.undo()
        history.take_out("main", D1)
        self.assertEqual((history.how_many(), history.here(), history.parent(3)), (4, 3, 1))

    def test_an_empty_head_is_not_a_lacking_one(self):
        history = self.history
        history.drop_head("side")
        self.at(1, {"main": [A1, B1]})
        history.set_head("side", [])
        self.at(2, {"main": [A1, B1], "side": []})

    def test_refused_as_a_store(self):
        history = self.history
        history.pick("side", D1)
        for thing in [thing for thing in ANYTHING if thing != []] + [[thing] for thing in EQUALS] + [(A1,), [ABSENT], A1]:
            self.refused_alike(OutOfPlace, {}, history.set_head, "main", thing)
        for thing in ANYTHING + EQUALS + ["absent"]:
            self.refused_alike(OutOfPlace, {}, history.drop_head, thing)
            self.refused_alike(OutOfPlace, {}, history.merge_heads, thing, "main")
            self.refused_alike(OutOfPlace, {}, history.merge_heads, "main", thing)
            for act in (history.pick, history.take_out, history.take_with):
                self.refused_alike(OutOfPlace, {}, act, thing, A1)
                self.refused_alike(OutOfPlace, {}, act, "main", thing)
            if thing != "absent":
                self.refused_alike(OutOfPlace, {}, history.set_head, thing, [A1])
            self.refused_alike(OutOfPlace, {}, history.put_patch, thing)
        self.refused_alike(NotClosed, {"lacking": [A1, B1]}, history.set_head, "main", [A2])
        self.refused_alike(Hindered, {"knowing": [B1]}, history.take_out, "main", A1)
        self.refused_alike(OutOfPlace, {}, history.take_out, "main", D1)
        self.refused_alike(Unlike, {"name": A1}, history.put_patch, putting(A1, texts=["other"]))
        self.refused_alike(NotClosed, {"lacking": [ABSENT]}, history.put_patch, putting(("n", 1), [A1, ABSENT]))
        self.refused_alike(BadPatch, {"deed": 1}, history.put_patch, Patch(("n", 1), [], [("cut", ("a", 1, 1))]))

    def test_done_by_the_heads_of_the_state(self):
        history = self.history
        history.set_head("new", [D1])
        history.undo()
        self.refused_alike(OutOfPlace, {}, history.pick, "new", A1)
        history.redo()
        history.pick("new", A1)
        history.go(0)
        history.pick("side", D1)
        self.at(3, {"main": [A1, B1], "side": [D1]})
        history.go(2)
        self.refused_alike(OutOfPlace, {}, history.take_out, "side", D1)

    def test_putting_makes_no_state(self):
        history = self.history
        self.assertIsNone(history.put_patch(putting(("n", 1), [A1])))
        self.assertIsNone(history.put_patch(putting(A1)))
        self.assertEqual((history.how_many(), history.here()), (1, 0))
        history.pick("main", ("n", 1))
        self.at(1, {"main": [A1, B1, ("n", 1)], "side": []})
        self.assertIn(("n", 1), history.store_at(0).names())
        self.assertNotIn(("n", 1), self.store.names())


class Ways(HistoryCase):

    def setUp(self):
        HistoryCase.setUp(self)
        # 0 - 1 - 2 - 3, 2 - 4, 0 - 5 - 6, 1 - 7.
        for number, name in ((0, A2), (1, B2), (2, C1), (2, D1), (0, D1), (5, B2), (1, A3)):
            self.history.go(number)
            self.history.pick("side", name)

    def test_tree(self):
        history = self.history
        self.assertEqual([history.parent(number) for number in range(8)], [None, 0, 1, 2, 2, 0, 5, 1])
        self.assertEqual([history.children(number) for number in range(8)], [[1, 5], [2, 7], [3, 4], [], [], [6], [], []])

    def test_way(self):
        for one, other, row in ((0, 0, [0]), (7, 7, [7]), (0, 3, [0, 1, 2, 3]), (3, 0, [3, 2, 1, 0]), (3, 4, [3, 2, 4]), (4, 3, [4, 2, 3]),
                                (3, 7, [3, 2, 1, 7]), (7, 4, [7, 1, 2, 4]), (6, 4, [6, 5, 0, 1, 2, 4]), (4, 6, [4, 2, 1, 0, 5, 6]),
                                (1, 4, [1, 2, 4]), (4, 1, [4, 2, 1]), (5, 1, [5, 0, 1])):
            self.assertEqual(self.history.way(one, other), row)

    def test_undo(self):
        history = self.history
        for number in (1, 0):
            self.assertIsNone(history.undo())
            self.assertEqual(history.here(), number)
        self.refused_alike(OutOfPlace, {}, history.undo)

    def test_redo_to_the_latest(self):
        history = self.history
        self.refused_alike(OutOfPlace, {}, history.redo)
        # It was at each child when that came; going from 5 to 1 made 1 the latest of state 0.
        self.assertEqual([history.latest(number) for number in range(8)], [1, 7, 4, None, None, 6, None, None])
        history.undo()
        history.undo()
        for number in (1, 7):
            self.assertIsNone(history.redo())
            self.assertEqual(history.here(), number)
        history.go(3)
        # It was at 3, but not at 2 nor at 1 on the way to it.
        self.assertEqual([history.latest(number) for number in range(8)], [1, 7, 3, None, None, 6, None, None])
        history.undo()
        self.assertEqual([history.latest(number) for number in range(8)], [1, 2, 3, None, None, 6, None, None])
        history.go(6)
        history.go(0)
        self.assertEqual([history.latest(number) for number in range(8)], [1, 2, 3, None, None, 6, None, None])
        history.go(5)
        history.go(0)
        for number in (5, 6):
            history.redo()
            self.assertEqual(history.here(), number)

    def test_go(self):
        history = self.history
        told = [history.heads_at(number) for number in range(8)]
        for number in (3, 0, 6, 6, 4, 7):
            self.assertIsNone(history.go(number))
            self.assertEqual(history.here(), number)
            self.assertEqual([history.heads_at(number) for number in range(8)], told)
        self.assertEqual(history.how_many(), 8)

    def test_no_numbers(self):
        history = self.history
        for thing in [thing for thing in ANYTHING if not (thing.__class__ is int and 0 <= thing < 8)] + [8, -1, 10 ** 30, "1", (1,), [1]]:
            for act in (history.parent, history.children, history.latest, history.heads_at, history.store_at, history.go):
                self.refused_alike(OutOfPlace, {}, act, thing)
            self.refused_alike(OutOfPlace, {}, history.way, thing, 0)
            self.refused_alike(OutOfPlace, {}, history.way, 0, thing)
            self.refused_alike(OutOfPlace, {}, history.way, thing, thing)

    def test_sheets_come_again(self):
        history = self.history
        sheets = []
        for number in range(8):
            store = history.store_at(number)
            sheets.append(sheet_texts(View(store, store.head_set("side"))))
        for number in (6, 2, 0, 7, 4):
            history.go(number)
            history.sweep()
            store = history.store_at(history.here())
            self.assertEqual(sheet_texts(View(store, store.head_set("side"))), sheets[number])


class Keeping(HistoryCase):

    def test_sweep(self):
        history = self.history
        history.pick("side", D1)
        history.undo()
        history.set_head("main", [])
        history.drop_head("main")
        history.drop_head("side")
        # No head of this state has a patch, but heads of other states have.
        self.assertEqual(history.heads_at(history.here()), {})
        before = [history.heads_at(number) for number in range(history.how_many())]
        self.assertEqual(history.sweep(), [A2, A3, B2, C1])
        self.assertEqual(history.store_at(0).names(), [A1, B1, D1])
        self.assertEqual(history.sweep(), [])
        self.assertEqual([history.heads_at(number) for number in range(history.how_many())], before)
        history.go(1)
        self.at(1, {"main": [A1, B1], "side": [D1]})
        self.refused_alike(OutOfPlace, {}, history.pick, "side", A2)
        history.put_patch(putting(A2, [D1]))
        history.pick("side", A2)
        self.assertEqual(history.heads_at(history.here())["side"], [A2, D1])

    def test_sweep_of_nothing(self):
        history = History(Store())
        self.assertEqual(history.sweep(), [])
        history.put_patch(putting(A1))
        self.assertEqual((history.sweep(), history.store_at(0).names()), ([A1], []))

    def test_what_is_told_is_the_askers_own(self):
        history = self.history
        history.pick("side", D1)
        history.pick("side", A1)
        before = all_told(history)
        history.children(0).append(7)
        heads = history.heads_at(1)
        heads["main"].append(D1)
        heads["other"] = []
        history.way(0, 2).clear()
        store = history.store_at(1)
        store.drop_head("main")
        store.put_patch(putting(("n", 1)))
        store.set_head("side", [])
        store.sweep([])
        self.assertEqual(all_told(history), before)
        told, heads, children, way = history.told(), history.heads_at(2), history.children(0), history.way(2, 0)
        kept = repr((told, heads, children, way))
        history.undo()
        history.undo()
        history.drop_head("main")
        history.sweep()
        self.assertEqual(repr((told, heads, children, way)), kept)

    def test_what_is_handed_in_is_not_kept(self):
        names = [A1, B1, A2]
        self.history.set_head("main", names)
        names.append(D1)
        self.assertEqual(self.history.heads_at(1)["main"], [A1, A2, B1])
        before = all_told(self.history)
        self.store.drop_head("main")
        self.store.sweep([])
        self.assertEqual(all_told(self.history), before)
        self.setUp()
        self.history.set_head("side", [D1])
        self.history.put_patch(putting(("n", 1)))
        self.assertEqual(told_of(self.store), told_of(store_of()))

    def test_copied(self):
        history = self.history
        history.pick("side", D1)
        history.undo()
        history.pick("side", A1)
        other = history.copied()
        self.assertIsInstance(other, History)
        before = all_told(history)
        self.assertEqual(all_told(other), before)
        other.go(1)
        other.drop_head("main")
        other.put_patch(putting(("n", 1)))
        other.sweep()
        self.assertEqual(all_told(history), before)
        kept = all_told(other)
        history.undo()
        history.set_head("main", [])
        history.put_patch(putting(("n", 2)))
        self.assertEqual(all_told(other), kept)

    def test_history_of(self):
        history = self.history
        for number, name in ((0, A2), (1, B2), (0, D1), (3, B2), (2, C1)):
            history.go(number)
            history.pick("side", name)
        history.drop_head("main")
        history.go(4)
        store = history.store_at(2)
        other = history_of(store, history.told())
        self.assertIsInstance(other, History)
        self.assertEqual(all_told(other), all_told(history))
        self.assertEqual(told_of(store), told_of(history.store_at(2)))
        for one in (history, other):
            one.undo()
            one.redo()
            one.pick("side", D1)
            one.take_with("main", A1)
            one.go(1)
            one.redo()
        self.assertEqual(all_told(other), all_told(history))
        store.sweep([])
        other = history_of(history.store_at(0), history.told())
        self.assertEqual(all_told(other), all_told(history))

    def test_told(self):
        history = self.history
        history.set_head("new", [A1])
        history.go(0)
        history.drop_head("main")
        self.assertEqual(history.told(), (2, (
            (None, 2, (("main", (A1, B1)), ("side", ()))), (0, None, (("main", (A1, B1)), ("new", (A1,)), ("side", ()))),
            (0, None, (("side", ()),)))))


class Model:
    """A history told plainly: a row of states, each a parent and a store; and of each state when it was visited last."""

    def __init__(self, store):
        self.patches = store
        self.rows = [(None, {head: store.head_set(head) for head in store.heads()})]
        self.here, self.time, self.visits = 0, 0, {0: 0}

    def store(self, number):
        store = self.patches.copied()
        for head in store.heads():
            store.drop_head(head)
        for head, names in self.rows[number][1].items():
            store.set_head(head, names)
        return store

    def visit(self, number):
        self.time += 1
        self.here = number
        self.visits[number] = self.time

    def do(self, act, *things):
        store = self.store(self.here)
        getattr(store, act)(*things)
        heads = {head: store.head_set(head) for head in store.heads()}
        if heads != self.rows[self.here][1]:
            self.rows.append((self.here, heads))
            self.visit(len(self.rows) - 1)

    def latest(self, number):
        return max((child for child in range(len(self.rows)) if self.rows[child][0] == number), key=self.visits.get, default=None)

    def told(self):
        return (self.here, tuple((parent, self.latest(number), tuple((head, tuple(names)) for head, names in sorted(heads.items())))
                                 for number, (parent, heads) in enumerate(self.rows)))


class Webs(HistoryCase):

    def test_many_deeds(self):
        for seed in range(25):
            made = web(seed, 10)
            store = put_all([putting(name, knows) for name, knows in made.items()])
            names, some = store.names(), chances(seed)
            history, model = History(store), Model(store.copied())
            for _ in range(60):
                head, other, name = "abc"[next(some) % 3], "abc"[next(some) % 3], names[next(some) % 10]
                sort = next(some) % 10
                deeds = (("set_head", head, store.closed_by([name])), ("merge_heads", head, other), ("pick", head, name),
                         ("take_out", head, name), ("take_with", head, name), ("pick", head, name), ("drop_head", head))
                if sort < 7:
                    self.done_alike(history, model, deeds[sort])
                elif sort == 7 and history.here():
                    history.undo()
                    model.visit(model.rows[model.here][0])
                elif sort == 8 and model.latest(model.here) is not None:
                    history.redo()
                    model.visit(model.latest(model.here))
                else:
                    number = next(some) % history.how_many()
                    history.go(number)
                    model.visit(number)
                self.assertEqual(history.told(), model.told())
            self.assertEqual(history_of(store, history.told()).told(), model.told())
            kept = {name for _, heads in model.rows for row in heads.values() for name in row}
            self.assertEqual(history.sweep(), sorted(set(names) - kept))

    def done_alike(self, history, model, deed):
        """Do a deed with both; they are refused alike."""
        try:
            model.do(*deed)
        except ValueError as due:
            fields = {field: getattr(due, field) for field in ("lacking", "knowing") if hasattr(due, field)}
            self.refused(due.__class__, fields, getattr(history, deed[0]), *deed[1:])
        else:
            self.assertIsNone(getattr(history, deed[0])(*deed[1:]))
