"""[130], [131], [132], [134]: what packs of stores and histories, and thin packs, tell."""

from manyheads.errors import NotClosed, OutOfPlace
from manyheads.history import History
from manyheads.pack import pack_text, sum_of, thin
from manyheads.patch import Patch
from manyheads.patchread import read_patches
from manyheads.sets import log_of, tops
from manyheads.store import Store
from helpers import ANYTHING, EQUALS, FOOT, HEAD, Case, put_all, putting, told_of
from plain import line_web
from plainpack import sum_row

A1, A2, A3, B1, B2, C1, D1 = ("a", 1), ("a", 2), ("a", 3), ("b", 1), ("b", 2), ("c", 1), ("d", 1)
ABSENT = ("z", 9)
WEB = [(A1, []), (D1, []), (B1, [A1]), (B2, [A1]), (A2, [B1]), (C1, [A2, B2]), (A3, [C1])]


def with_sum(*rows):
    return "\n".join([*rows, sum_row(rows)])


def texts_put():
    """A store whose patches put some texts again and again, also within one put."""
    return put_all([
        Patch(("b", 2), [], [("put", HEAD, FOOT, ("one", "two", "one", "")), ("cut", ("b", 2, 1))]),
        Patch(("c", 1), [], [("put", HEAD, FOOT, ("three", "two"))]),
        Patch(("a", 7), [("b", 2)], [("put", ("b", 2, 1), FOOT, ("", "three")), ("put", HEAD, ("a", 7, 1), ("+two",)),
                                     ("order", ("b", 2, 3), ("b", 2, 1)), ("keep", ("a", 7, 3))])])


class Sums(Case):

    def test_sum(self):
        self.assertEqual(sum_of([]), 0)
        self.assertEqual(sum_of([""]), 10)
        self.assertEqual(sum_of(["a"]), 97 * 257 + 10)
        self.assertEqual(sum_of(["a", "b"]), (((97 * 257 + 10) * 257 + 98) * 257 + 10) % 1000000007)
        self.assertEqual(sum_of(["", ""]), 10 * 257 + 10)
        rows = ["pack", "patch ann 1", "knows none", "put head foot", "+ ~"]
        total = 0
        for sign in "\n".join(rows) + "\n":
            total = (total * 257 + ord(sign)) % 1000000007
        self.assertEqual(sum_of(rows), total)
        self.assertLess(sum_of(["~" * 2000]), 1000000007)
        self.assertEqual(sum_of(["~" * 2000]), int(sum_row(["~" * 2000]).split(" ")[1]))

    def test_any_other_sign_is_found(self):
        text = "pack\npatch a 1"
        for at in range(len(text)):
            for sign in " az09+~\n":
                if sign != text[at]:
                    bent = text[:at] + sign + text[at + 1:]
                    self.assertNotEqual(sum_of(bent.split("\n")), sum_of(text.split("\n")))

    def test_rows_stay(self):
        rows = ["a", "b"]
        sum_of(rows)
        self.assertEqual(rows, ["a", "b"])


class Stores(Case):

    def test_empty(self):
        self.assertEqual(pack_text(Store()), with_sum("pack"))
        self.assertEqual(pack_text(Store()), "pack\nsum " + str(sum_of(["pack"])))

    def test_patches_by_the_log(self):
        store = put_all([putting(("z", 1), [], ["z"]), putting(("b", 7), [("z", 1)], ["b"]), putting(("c", 3), [], ["c"])])
        self.assertEqual(pack_text(store), with_sum(
            "pack", "patch c 3", "knows none", "put head foot", "+c", "patch z 1", "knows none", "put head foot", "+z",
            "patch b 7", "knows z.1", "put head foot", "+b"))

    def test_texts_that_stood_ahead(self):
        self.assertEqual(pack_text(texts_put()), with_sum(
            "pack", "patch b 2", "knows none", "put head foot", "+one", "+two", "=0", "+", "cut b.2.1",
            "patch a 7", "knows b.2", "put b.2.1 foot", "=2", "+three", "put head a.7.1", "++two", "order b.2.3 b.2.1", "keep a.7.3",
            "patch c 1", "knows none", "put head foot", "=3", "=1"))

    def test_heads(self):
        store = put_all([putting(name, knows) for name, knows in WEB])
        for head, names in (("side", [A1, B1, B2, D1]), ("main", [A1, A2, B1]), ("none", []), ("gone", [A1])):
            store.set_head(head, names)
        text = pack_text(store)
        self.assertEqual(text.split("\n")[-5:-1], ["head gone a.1", "head main a.2", "head none none", "head side b.1 b.2 d.1"])
        self.assertEqual(text, with_sum(*text.split("\n")[:-1]))

    def test_webs(self):
        for seed in range(30):
            store = line_web(seed, 9)
            names = store.names()
            store.set_head("main", store.closed_by(names[seed % 3::3]))
            store.set_head("other", store.closed_by(names[seed % 4:seed % 4 + 1]))
            rows = pack_text(store).split("\n")
            self.assertEqual(rows[-1], sum_row(rows[:-1]))
            self.assertEqual(rows[-3:-1], ["head " + " ".join([head] + [f"{hand}.{number}" for hand, number in tops(store, store.head_set(head))])
                                           for head in ("main", "other")])
            texts, told = [], []
            for row in rows[1:-3]:
                if row.startswith("+"):
                    self.assertNotIn(row, texts)
                    texts.append(row)
                told.append(texts[int(row[1:])] if row.startswith("=") else row)
            patches = read_patches("\n".join(told))
            self.assertEqual([patch.told() for patch in patches], [store.patch_of(name).told() for name in log_of(store, names)])

    def test_the_store_stays(self):
        store = texts_put()
        store.set_head("main", [("b", 2)])
        before = told_of(store)
        pack_text(store)
        thin(store, [("a", 7)], [("b", 2)])
        self.assertEqual(told_of(store), before)


class Histories(Case):

    def setUp(self):
        self.store = put_all([putting(A1), putting(B1, [A1]), putting(C1)])
        self.patches = pack_text(self.store).split("\n")[:-1]

    def see(self, history, *rows):
        self.assertEqual(pack_text(history), with_sum(*self.patches, *rows))

    def test_one_state(self):
        self.see(History(self.store), "states 1 0 none")
        self.store.set_head("main", [A1])
        self.store.set_head("all", [A1, B1, C1])
        self.store.set_head("empty", [])
        self.see(History(self.store), "states 1 0 none", "head all b.1 c.1", "head empty none", "head main a.1")
        self.assertEqual(pack_text(History(Store())), with_sum("pack", "states 1 0 none"))

    def test_states(self):
        self.store.set_head("main", [A1])
        history = History(self.store)
        history.pick("main", C1)
        self.see(history, "states 2 1 1", "head main a.1", "state 0 none main a.1 c.1")
        history.drop_head("main")
        history.undo()
        history.set_head("side", [])
        history.undo()
        history.undo()
        rows = ["head main a.1", "state 0 3 main a.1 c.1", "state 1 none main gone", "state 1 none side none"]
        self.see(history, "states 4 0 1", *rows)
        history.take_with("main", A1)
        rows = [rows[0], *rows[1:], "state 0 none main none"]
        self.see(history, "states 5 4 4", *rows)
        history.go(2)
        rows[1] = "state 0 2 main a.1 c.1"
        self.see(history, "states 5 2 4", *rows)
        history.set_head("main", [])
        rows[2] = "state 1 5 main gone"
        self.see(history, "states 6 5 4", *rows, "state 2 none main none")

    def test_heads_come_and_go_along_the_way(self):
        history = History(self.store)
        history.set_head("gone", [])
        history.set_head("gone", [A1])
        history.drop_head("gone")
        history.set_head("none", [C1])
        self.see(history, "states 5 4 1", "state 0 2 gone none", "state 1 3 gone a.1", "state 2 4 gone gone", "state 3 none none c.1")

    def test_the_history_stays(self):
        history = History(self.store)
        history.set_head("main", [A1])
        history.undo()
        told = history.told()
        pack_text(history)
        self.assertEqual(history.told(), told)


class Thin(Case):

    def setUp(self):
        self.store = put_all([putting(name, knows, [name[0], "x"]) for name, knows in WEB])

    def test_thin(self):
        self.assertEqual(thin(self.store, [], []), with_sum("thin"))
        self.assertEqual(thin(self.store, [A2], [A2, B1, A1]), with_sum("thin"))
        self.assertEqual(thin(self.store, [B1], []), with_sum(
            "thin", "patch a 1", "knows none", "put head foot", "+a", "+x", "patch b 1", "knows a.1", "put head foot", "+b", "=1"))
        self.assertEqual(thin(self.store, [C1, D1], [B1, A1, A1]), with_sum(
            "thin", "patch a 2", "knows b.1", "put head foot", "+a", "+x", "patch b 2", "knows a.1", "put head foot", "+b", "=1",
            "patch c 1", "knows a.2 b.2", "put head foot", "+c", "=1", "patch d 1", "knows none", "put head foot", "+d", "=1"))
        self.assertEqual(thin(self.store, [B1, B1], [A1, D1]), with_sum("thin", "patch b 1", "knows a.1", "put head foot", "+b", "+x"))

    def test_in_the_order_of_the_whole_log(self):
        # Without d.9 the log would have a.5, which knows it, ahead of b.1.
        store = put_all([putting(("d", 9)), putting(("b", 1)), putting(("a", 5), [("d", 9)])])
        rows = thin(store, [("a", 5), ("b", 1)], [("d", 9)]).split("\n")
        self.assertEqual([row for row in rows if row.startswith("patch")], ["patch b 1", "patch a 5"])

    def test_names(self):
        for seed in range(20):
            store = line_web(seed, 9)
            names, have = store.names()[seed % 2::2], store.closed_by(store.names()[seed % 5:seed % 5 + 1])
            rows = thin(store, names, have).split("\n")
            due = [name for name in log_of(store, store.closed_by(names)) if name not in have]
            self.assertEqual([row for row in rows if row.startswith("patch ")], [f"patch {hand} {number}" for hand, number in due])
            self.assertEqual((rows[0], rows[-1]), ("thin", sum_row(rows[:-1])))

    def test_refused(self):
        bads = [thing for thing in ANYTHING if thing != []] + [[thing] for thing in EQUALS] + [(A1,), [ABSENT], [A1, ABSENT], A1, [list(A1)]]
        for names in bads:
            self.refused(OutOfPlace, {}, thin, self.store, names, [])
            self.refused(OutOfPlace, {}, thin, self.store, [A1], names)
            self.refused(OutOfPlace, {}, thin, self.store, names, names)
            self.refused(OutOfPlace, {}, thin, self.store, names, [B1])
        for have, lacking in (([B1], [A1]), ([A1, C1], [A2, B1, B2]), ([A2, A2], [A1, B1])):
            self.refused(NotClosed, {"lacking": lacking}, thin, self.store, [D1], have)

    def test_what_is_handed_in_is_not_changed(self):
        names, have = [C1, C1], [B1, A1, A1]
        thin(self.store, names, have)
        self.assertEqual((names, have), ([C1, C1], [B1, A1, A1]))
