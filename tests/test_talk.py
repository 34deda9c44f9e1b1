"""[120] to [122]: messages and their answers, and fetching by them."""

from manyheads.errors import BadMessage
from manyheads.patch import Patch
from manyheads.sets import log_of, tops
from manyheads.store import Store
from manyheads.talk import Fetch, reply
from helpers import ANYTHING, EQUALS, FOOT, HEAD, OWN_LIST, Case, chances, put_all, putting, told_of, web
from plain import line_web

A1, A2, A3, B1, B2, C1, D1 = ("a", 1), ("a", 2), ("a", 3), ("b", 1), ("b", 2), ("c", 1), ("d", 1)
ABSENT = ("z", 9)
WEB = [(A1, []), (D1, []), (B1, [A1]), (B2, [A1]), (A2, [B1]), (C1, [A2, B2]), (A3, [C1])]
NINE = tuple(("n", number) for number in range(1, 10))


def store_of(made):
    return put_all([putting(name, knows) for name, knows in made])


def row_of(store, name):
    name, knows, deeds = store.patch_of(name).told()
    return (name, tuple(knows), tuple(deeds))


class Replies(Case):

    def setUp(self):
        self.store = store_of(WEB)
        self.store.set_head("main", [A1])
        self.before = told_of(self.store)

    def tearDown(self):
        self.assertEqual(told_of(self.store), self.before)

    def test_tops(self):
        self.assertEqual(reply(self.store, ("tops",)), ("tops", (A3, D1)))
        self.assertEqual(reply(Store(), ("tops",)), ("tops", ()))
        self.assertEqual(reply(store_of([(("b", 10), []), (("b", 9), []), (("a", 1), [])]), ("tops",)), ("tops", (("a", 1), ("b", 9), ("b", 10))))

    def test_knows(self):
        for names, rows in (((A1,), ((A1, ()),)), ((C1, A1, B1), ((C1, (A2, B2)), (A1, ()), (B1, (A1,)))), ((ABSENT,), ()),
                            ((ABSENT, A2, ("z", 1)), ((A2, (B1,)),))):
            self.assertEqual(reply(self.store, ("knows", names)), ("known", rows))

    def test_patches(self):
        for names, order in (((A1,), [A1]), ((A3, A1, B2, A2), [A1, A2, B2, A3]), ((ABSENT,), []), ((D1, ABSENT, C1, B1), [B1, C1, D1])):
            self.assertEqual(reply(self.store, ("patches", names)), ("told", tuple(row_of(self.store, name) for name in order)))
        store = put_all([Patch(("n", 1), [], [("put", HEAD, FOOT, ("one", "two")), ("cut", ("n", 1, 1)), ("order", ("n", 1, 2), ("n", 1, 1))])])
        self.assertEqual(reply(store, ("patches", (("n", 1),))), ("told", ((("n", 1), (), (
            ("put", HEAD, FOOT, ("one", "two")), ("cut", ("n", 1, 1)), ("order", ("n", 1, 2), ("n", 1, 1)))),)))

    def test_told_by_the_log_of_all(self):
        # By the log of the asked ones alone b.7 would stand ahead of c.3.
        store = store_of([(("z", 1), []), (("b", 7), [("z", 1)]), (("c", 3), [])])
        self.assertEqual([row[0] for row in reply(store, ("patches", (("b", 7), ("c", 3))))[1]], [("c", 3), ("b", 7)])

    def test_eight_names(self):
        self.assertEqual(reply(self.store, ("knows", NINE[:8])), ("known", ()))
        self.assertEqual(reply(self.store, ("patches", NINE[:7] + (A1,))), ("told", (row_of(self.store, A1),)))
        for word in ("knows", "patches"):
            for names in (NINE, NINE[:8] + (A1,), (), (A1, A1), (A1, B1, A1)):
                self.refused(BadMessage, {}, reply, self.store, (word, names))

    def test_no_message(self):
        good = ("knows", (A1,))
        for message in ANYTHING + [
                ("tops", ()), ("tops", (A1,)), ["tops"], "tops", ("Tops",), ("top",), (b"tops",), ("tops", None), ("knows",), ("patches",),
                ["knows", (A1,)], ("knows", [A1]), ("patches", [A1]), ("knows", A1), ("known", (A1,)), ("told", (A1,)), (*good, None), good[::-1],
                ("knows", (list(A1),)), ("knows", ("a", "b")), ("knows", {A1: 1}), ("knows", {A1}), ("knows", None), (("knows", (A1,)),),
                (1, (A1,)), ("knows", (A1, None))]:
            self.refused(BadMessage, {}, reply, self.store, message)
        for thing in ANYTHING + EQUALS:
            for word in ("knows", "patches"):
                self.refused(BadMessage, {}, reply, self.store, (word, (thing,)))
                self.refused(BadMessage, {}, reply, self.store, (word, (A1, thing)))

    def test_tuples_texts_and_numbers_alone(self):
        def plain(thing):
            return thing.__class__ in (str, int) or thing.__class__ is tuple and all(plain(part) for part in thing)

        store = line_web(5, 8)
        for message in (("tops",), ("knows", tuple(store.names())), ("patches", tuple(store.names()))):
            self.assertTrue(plain(reply(store, message)))


class PlainFetch:
    """What a fetch asks, told by the promises' own words from all that it took."""

    def __init__(self, store):
        self.store, self.tops, self.knows, self.asked = store.copied(), None, {}, []

    def heard(self):
        heard = set(self.tops or ())
        while True:
            more = {known for name in heard if name not in self.store.names() for known in self.knows.get(name, ())} | heard
            if more == heard:
                return {name for name in heard if name not in self.store.names()}
            heard = more

    def asks(self):
        if self.tops is None:
            return ("tops",)
        heard = self.heard()
        unheard = sorted(name for name in heard if name not in self.knows)
        if unheard:
            return ("knows", tuple(unheard[:8]))
        row = []
        while len(row) < min(8, len(heard)):
            row.append(min(name for name in heard if name not in row and all(
                known in row or known in self.store.names() for known in self.knows[name])))
        self.asked += [name for name in row if name not in self.asked]
        return ("patches", tuple(row)) if row else None

    def hears(self, answer):
        word, rows = answer
        if word == "tops":
            self.tops = set(self.tops or ()) | set(rows)
        for row in rows if word == "known" else ():
            if row[0] in self.heard() and row[0] not in self.knows:
                self.knows[row[0]] = row[1]
        for row in rows if word == "told" else ():
            if row[0] in self.asked and row[0] in self.heard() and self.knows.get(row[0]) == row[1]:
                try:
                    self.store.put_patch(Patch(row[0], list(row[1]), list(row[2])))
                except ValueError:
                    pass


class Fetches(Case):

    def run_to_the_end(self, store, other):
        """What is asked, where nothing is lost."""
        fetch, asked = Fetch(store), []
        while fetch.asks() is not None:
            asked.append(fetch.asks())
            self.assertIsNone(fetch.hears(reply(other, fetch.asks())))
        self.assertEqual(fetch.held().names(), sorted(set(store.names()) | set(other.names())))
        return fetch, asked

    def test_all(self):
        other = store_of(WEB)
        other.set_head("side", [A1])
        store = Store()
        store.set_head("main", [])
        fetch, asked = self.run_to_the_end(store, other)
        self.assertEqual(asked, [("tops",), ("knows", (A3, D1)), ("knows", (C1,)), ("knows", (A2, B2)), ("knows", (A1, B1)),
                                 ("patches", (A1, B1, A2, B2, C1, A3, D1))])
        self.assertEqual(fetch.asked_names(), [A1, B1, A2, B2, C1, A3, D1])
        self.assertEqual((fetch.held().heads(), store.names()), (["main"], []))
        self.assertEqual([fetch.held().patch_of(name).told() for name in other.names()],
                         [other.patch_of(name).told() for name in other.names()])

    def test_nothing_that_was_there(self):
        other, store = store_of(WEB), store_of(WEB[:3] + [(("n", 1), [B1])])
        store.set_head("main", [A1, B1])
        fetch, asked = self.run_to_the_end(store, other)
        self.assertEqual(asked, [("tops",), ("knows", (A3,)), ("knows", (C1,)), ("knows", (A2, B2)), ("patches", (A2, B2, C1, A3))])
        self.assertEqual(fetch.held().head_set("main"), [A1, B1])
        _, asked = self.run_to_the_end(other, store_of(WEB[:3]))
        self.assertEqual(asked, [("tops",)])

    def test_of_an_empty_store(self):
        for store in (Store(), store_of(WEB)):
            fetch, asked = self.run_to_the_end(store, Store())
            self.assertEqual((asked, fetch.asks(), fetch.asked_names()), ([("tops",)], None, []))

    def test_eight_at_a_time(self):
        names = [("n", number) for number in range(1, 12)]
        other = store_of([(name, []) for name in names] + [(("m", 1), names)])
        _, asked = self.run_to_the_end(Store(), other)
        self.assertEqual(asked, [("tops",), ("knows", (("m", 1),)), ("knows", tuple(names[:8])), ("knows", tuple(names[8:])),
                                 ("patches", tuple(names[:8])), ("patches", (*names[8:], ("m", 1)))])

    def test_asked_again_it_is_the_same(self):
        fetch, other = Fetch(Store()), store_of(WEB)
        while fetch.asks() is not None:
            self.assertEqual(fetch.asks(), fetch.asks())
            told = fetch.asked_names()
            told.clear()
            self.assertEqual(fetch.asked_names(), fetch.asked_names())
            fetch.hears(reply(other, fetch.asks()))
        self.assertEqual(fetch.asked_names(), log_of(other, other.names()))

    def test_what_is_passed_over(self):
        other, fetch = store_of(WEB), Fetch(Store())
        # Nothing was heard of yet.
        fetch.hears(("known", ((A3, (C1,)),)))
        fetch.hears(("told", (row_of(other, A1),)))
        self.assertEqual((fetch.asks(), fetch.held().names()), (("tops",), []))
        fetch.hears(("tops", (B1,)))
        self.assertEqual(fetch.asks(), ("knows", (B1,)))
        # A patch that wasn't asked for; what another one knows; then the same once more, and otherwise.
        fetch.hears(("told", (row_of(other, A1), row_of(other, B1))))
        fetch.hears(("known", ((A2, (B1,)), (B1, (A1,)), (A1, ()), (A1, (D1,)), (B1, (A1, D1)))))
        fetch.hears(("known", ((A1, (D1,)),)))
        self.assertEqual((fetch.asks(), fetch.held().names()), (("patches", (A1, B1)), []))
        # One that knows other names than was heard, one that the store doesn't take yet, one with an unknown line.
        fetch.hears(("told", ((A1, (D1,), ()),)))
        fetch.hears(("told", (row_of(other, B1),)))
        fetch.hears(("told", ((A1, (), (("cut", ("d", 1, 1)),)),)))
        self.assertEqual((fetch.asks(), fetch.held().names()), (("patches", (A1, B1)), []))
        fetch.hears(("told", (row_of(other, A1),)))
        self.assertEqual((fetch.asks(), fetch.held().names()), (("patches", (B1,)), [A1]))
        # A name that is there is not heard of again.
        fetch.hears(("tops", (A1, B1)))
        fetch.hears(("known", ((A1, ()),)))
        fetch.hears(("told", (row_of(other, A1), (A1, (), ()), row_of(other, B1))))
        self.assertEqual((fetch.asks(), fetch.held().names(), fetch.asked_names()), (None, [A1, B1], [A1, B1]))

    def test_a_patch_that_was_not_asked_for(self):
        other, fetch = store_of(WEB), Fetch(Store())
        fetch.hears(("tops", (A3, D1)))
        fetch.hears(("known", ((D1, ()),)))
        fetch.hears(("told", (row_of(other, D1),)))
        self.assertEqual((fetch.asks(), fetch.held().names(), fetch.asked_names()), (("knows", (A3,)), [], []))
        while fetch.asks()[0] != "patches":
            fetch.hears(reply(other, fetch.asks()))
        fetch.hears(("told", (row_of(other, D1),)))
        self.assertEqual(fetch.held().names(), [D1])

    def test_rows_one_by_one(self):
        other, fetch = store_of(WEB), Fetch(Store())
        for _ in range(5):
            fetch.hears(reply(other, fetch.asks()))
        self.assertEqual(fetch.asks(), ("patches", (A1, B1, A2, B2, C1, A3, D1)))
        # Of rows in another order those are taken whose known ones came already.
        fetch.hears(("told", tuple(row_of(other, name) for name in (D1, B1, A1, B2, A2, C1))))
        self.assertEqual(fetch.held().names(), [A1, B2, D1])
        self.assertEqual(fetch.asks(), ("patches", (B1, A2, C1, A3)))

    def test_more_tops(self):
        other, fetch = store_of(WEB[:3]), Fetch(Store())
        for _ in range(3):
            fetch.hears(reply(other, fetch.asks()))
        other.put_patch(putting(("n", 1)))
        fetch.hears(reply(other, ("tops",)))
        self.assertEqual(fetch.asks(), ("knows", (("n", 1),)))
        fetch.hears(("tops", ()))
        self.assertEqual(fetch.asks(), ("knows", (("n", 1),)))
        while fetch.asks() is not None:
            fetch.hears(reply(other, fetch.asks()))
        self.assertEqual(fetch.held().names(), other.names())

    def test_no_answer(self):
        other, fetch = store_of(WEB), Fetch(Store())
        for _ in range(5):
            fetch.hears(reply(other, fetch.asks()))
        good = row_of(other, A1)
        bads = ANYTHING + [
            ("tops",), ("tops", [A1]), ("tops", (A1, A1)), ("tops", (A1, None)), ("tops", A1), ["tops", (A1,)], ("tops", (A1,), ()), ("Tops", (A1,)),
            ("tops", (list(A1),)), ("known", [(A1, ())]), ("known", ([A1, ()],)), ("known", ((A1, []),)), ("known", ((A1, (B2, B1)),)),
            ("known", ((A1, (B1, B1)),)), ("known", ((A1, (A1,)),)), ("known", ((A1, (B1,), ()),)), ("known", ((A1,),)), ("known", (A1, ())),
            ("known", ((A1, ()), None)), ("known", ((A1, (None,)),)), ("known", ((None, ()),)), ("known", {A1: ()}), ("told", [good]),
            ("told", (list(good),)), ("told", (good[:2],)), ("told", (good + (1,),)), ("told", ((A1, [], good[2]),)), ("told", ((A1, (), list(good[2])),)),
            ("told", ((A1, (A1,), good[2]),)), ("told", ((A1, (B2, B1), ()),)), ("told", ((("a", True), (), ()),)), ("told", ((A1, (), (None,)),)),
            ("told", ((A1, (), (("cut", ("a", 1, 1)),)),)), ("told", ((A1, (), (("put", HEAD, FOOT, ["x"]),)),)), ("told", (good, None)),
            ("told", ((A1, (), (("order", ("b", 1, 1), ("b", 1, 1)),)),)), ("told", (good, (B1, (B1,), ()))), ("told", good), (1, ()), ("knows", (A1,)),
            ("patches", (A1,)), ("told", OWN_LIST), (("tops", ()),)]
        for answer in bads:
            self.refused(BadMessage, {}, fetch.hears, answer)
            self.assertEqual((fetch.asks(), fetch.held().names()), (("patches", (A1, B1, A2, B2, C1, A3, D1)), []))
        for thing in ANYTHING + EQUALS:
            for answer in (("tops", (thing,)), ("known", ((thing, ()),)), ("told", ((thing, (), ()),)), ("told", ((A1, (), (thing,)),))):
                self.refused(BadMessage, {}, fetch.hears, answer)
            if thing != () and thing != (("ann", 1),):
                for answer in (("known", ((A1, thing),)), ("told", ((A1, thing, ()),)), ("told", ((A1, (), thing),))):
                    self.refused(BadMessage, {}, fetch.hears, answer)
        self.assertEqual(fetch.held().names(), [])
        for answer in (("tops", ()), ("known", ()), ("told", ()), ("tops", NINE)):
            self.assertIsNone(fetch.hears(answer))

    def test_what_is_handed_in_and_told_is_not_kept(self):
        store, other = store_of(WEB[:2]), store_of(WEB)
        store.set_head("main", [A1])
        fetch = Fetch(store)
        store.drop_head("main")
        store.sweep([])
        while fetch.asks() is not None:
            held = fetch.held()
            held.set_head("new", [])
            held.put_patch(putting(("n", 1)))
            fetch.hears(reply(other, fetch.asks()))
        self.assertEqual((fetch.held().heads(), fetch.held().names()), (["main"], other.names()))


class Lossy(Case):

    def test_answers_lost_twice_late_and_of_another_asking(self):
        for seed in range(60):
            made = web(seed, 5 + seed % 30)
            some = chances(seed)
            patches = [putting(name, knows, "xyz"[:1 + next(some) % 3]) for name, knows in made.items()]
            other, store = put_all(patches), Store()
            own = sorted(set(other.closed_by([name for name in made if next(some) % 4 == 0])))
            for patch in patches:
                if patch.told()[0] in own:
                    store.put_patch(patch)
            store.put_patch(putting(("own", 1)))
            late = Store()
            for patch in patches[:len(patches) // 2]:
                late.put_patch(patch)
            fetch, plain, answers = Fetch(store), PlainFetch(store), []
            for _ in range(2000):
                message = fetch.asks()
                self.assertEqual(message, plain.asks())
                self.assertEqual(fetch.asked_names(), plain.asked)
                if message is None:
                    break
                if message[0] == "patches":
                    self.assertFalse(set(message[1]) & set(fetch.held().names()))
                # The other store holds but a half at first.
                answers.append(reply(late if len(answers) < 4 else other, message))
                if next(some) % 3:
                    continue
                answer = answers[next(some) % len(answers)] if next(some) % 2 else answers[-1]
                fetch.hears(answer)
                plain.hears(answer)
                self.assertEqual(fetch.held().names(), plain.store.names())
            self.assertIsNone(fetch.asks())
            fetch.hears(reply(other, ("tops",)))
            while fetch.asks() is not None:
                fetch.hears(reply(other, fetch.asks()))
            self.assertEqual(fetch.held().names(), sorted({*other.names(), *store.names()}))
            self.assertEqual(len(set(fetch.asked_names())), len(fetch.asked_names()))
            self.assertFalse(set(fetch.asked_names()) & set(store.names()))
            self.assertEqual(tops(fetch.held(), other.names()), list(reply(other, ("tops",))[1]))
