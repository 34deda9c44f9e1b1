"""[133], [134]: reading packs and thin packs; refused is the first row with which a text is no beginning of any."""

from itertools import product

from manyheads.errors import BadPack, BadPatch, NotClosed, Unlike
from manyheads.history import History
from manyheads.pack import pack_text, thin
from manyheads.packread import pack_read, thick
from manyheads.patch import Patch
from manyheads.store import Store
from helpers import ANYTHING, FOOT, Case, chances, put_all, putting, told_of
from plain import line_web
from plainpack import is_tree, sum_row, wrong_row, wrong_thin_row
from test_history import all_told

A1, A2, A3, B1, B2, C1, D1 = ("a", 1), ("a", 2), ("a", 3), ("b", 1), ("b", 2), ("c", 1), ("d", 1)
# Rows behind which a pack may go on: two patches, of which the second one knows the first one.
TWO = ["pack", "patch a 1", "knows none", "put head foot", "+one", "+two", "patch b 1", "knows a.1", "put a.1.1 foot", "=0", "+three"]


def with_sum(*rows):
    return "\n".join([*rows, sum_row(rows)])


def some_history(seed, many=7):
    """A history with some states, of a web of lines."""
    some = chances(seed * 3 + 1)
    store = line_web(seed, many)
    names = store.names()
    for head in ("main", "side")[:seed % 3]:
        store.set_head(head, store.closed_by([names[next(some) % many]]))
    history = History(store)
    for _ in range(seed % 6):
        history.go(next(some) % history.how_many())
        head = ("main", "side", "other")[next(some) % 3]
        if head in history.heads_at(history.here()) and next(some) % 3 == 0:
            history.drop_head(head)
        else:
            history.set_head(head, store.closed_by([names[next(some) % many] for _ in range(next(some) % 3)]))
    history.go(next(some) % history.how_many())
    return history


class ReadCase(Case):

    def wrong(self, row, *rows):
        """See that a text of these rows, and a sum, is refused at a row; so does the second reading."""
        for text in (with_sum(*rows), "\n".join(rows)):
            due = row if row <= len(rows) else len(rows) + 1
            self.refused(BadPack, {"row": due}, pack_read, text)
            self.assertEqual(wrong_row(text), due, rows)

    def good(self, *rows):
        """See that these rows with a sum are a pack, and without it end too soon."""
        text = with_sum(*rows)
        self.assertEqual(pack_text(pack_read(text)), text)
        self.assertIsNone(wrong_row(text))
        self.refused(BadPack, {"row": len(rows) + 1}, pack_read, "\n".join(rows))


class Patches(ReadCase):

    def test_good(self):
        for rows in (["pack"], TWO[:3], TWO[:6], TWO, TWO + ["keep b.1.2"], ["pack", "patch a 1", "knows none", "patch b 1", "knows none"]):
            self.good(*rows)
        store = pack_read(with_sum(*TWO, "head main b.1", "head none none"))
        self.assertIsInstance(store, Store)
        self.assertEqual((store.names(), store.heads(), store.head_set("main"), store.head_set("none")), ([A1, B1], ["main", "none"], [A1, B1], []))
        self.assertEqual(store.patch_of(B1).told(), (B1, [A1], [("put", ("a", 1, 1), FOOT, ("one", "three"))]))

    def test_no_text(self):
        for thing in [thing for thing in ANYTHING if not isinstance(thing, str)] + [b"pack", ["pack"], with_sum("pack").encode()]:
            self.refused(BadPack, {"row": 1}, pack_read, thing)

    def test_first_row(self):
        for row in ("", "Pack", "pac", "packs", "pack ", " pack", "pack pack", "thin", "patch a 1", "sum 0"):
            self.wrong(1, row)
            self.wrong(1, row, *TWO[1:])
        self.refused(BadPack, {"row": 2}, pack_read, "pack")
        self.refused(BadPack, {"row": 2}, pack_read, "pack\n")
        self.refused(BadPack, {"row": 3}, pack_read, with_sum("pack") + "\n")
        self.refused(BadPack, {"row": 1}, pack_read, "")

    def test_patch_rows(self):
        for row in ("patch", "patch a", "patch a 1 1", "patch a 01", "patch a 0", "patch a 1000", "patch head 1", "patch A 1", "patch  a 2",
                    "patch a 2 ", "patch a 1", "patch b 1", "patches a 2", "", " ", "knows none", "heads", "put"):
            self.wrong(12, *TWO, row, "knows none")
        self.wrong(12, *TWO, "patch")
        self.wrong(7, *TWO[:6], "patch a 1", "knows none")
        self.wrong(2, "pack", "cut a.1.1")

    def test_known_rows(self):
        for row in ("knows", "knows none a.1", "knows a.1 a.1", "knows b.1 a.1", "knows c.1", "knows d.1", "knows a.1 d.1", "knows a.01", "knows a.1 ",
                    "knows  a.1", "know a.1", "cut a.1.1", "patch d 1", "knows a.2"):
            self.wrong(13, *TWO, "patch c 1", row)
        self.wrong(13, *TWO, "patch c 1")
        self.good(*TWO, "patch c 1", "knows a.1 b.1")

    def test_the_order_of_the_log(self):
        # What knows nothing stands behind lesser names alone.
        self.wrong(5, "pack", "patch b 1", "knows none", "patch a 9", "knows none")
        self.wrong(5, "pack", "patch a 10", "knows none", "patch a 9", "knows none", "head")
        self.good("pack", "patch a 9", "knows none", "patch a 10", "knows none")
        self.good("pack", "patch b 1", "knows none", "patch a 9", "knows b.1")
        self.wrong(7, "pack", "patch z 1", "knows none", "patch a 1", "knows z.1", "patch m 1", "knows none")
        self.wrong(9, "pack", "patch b 1", "knows none", "patch z 1", "knows b.1", "patch a 1", "knows z.1", "patch m 1", "knows b.1")
        rows = ["pack", "patch b 1", "knows none", "patch c 1", "knows none"]
        self.wrong(7, *rows, "patch a 1", "knows b.1")
        self.wrong(7, *rows, "patch a 1", "knows none")
        self.good(*rows, "patch a 1", "knows c.1")
        self.good(*rows, "patch a 1", "knows b.1 c.1")
        self.good(*rows, "patch d 1", "knows b.1")
        self.wrong(9, *rows, "patch d 1", "knows b.1", "patch c 2", "knows c.1", "sum 1")
        self.good(*rows, "patch d 1", "knows b.1", "patch c 2", "knows d.1")

    def test_deeds(self):
        for row in ("cut", "cut a.1.1 a.1.2", "cut head", "keep foot", "order a.1.1 foot", "order a.1.1 a.1.1", "put head head", "put foot head",
                    "put a.1.1 head", "put foot a.1.1", "put a.1.1 a.1.1", "cut a.1.3", "cut a.1.0", "cut b.1.3", "cut c.1.1", "order a.1.1 c.1.2",
                    "cut d.1.1", "order d.1.1 a.1.1", "put a.1.9 foot", "cut a.1.01", "cut a.1", "keeps a.1.1", "cut  a.1.1", "", "+one", "=0", "put",
                    "put head", "put head foot foot", "cut a.2.1"):
            self.wrong(14, *TWO, "patch c 1", "knows b.1", row)
        self.good(*TWO, "patch c 1", "knows b.1", "cut a.1.2", "cut b.1.2", "order b.1.1 a.1.1", "put a.1.2 b.1.1", "=1", "keep c.1.1")
        self.wrong(15, *TWO, "patch c 1", "knows b.1", "cut a.1.2", "keep c.1.1", "put head foot", "=0")
        self.wrong(17, *TWO, "patch c 1", "knows b.1", "put head foot", "=0", "=1", "order c.1.2 c.1.3")

    def test_lines_that_are_not_known(self):
        rows = [*TWO, "patch c 1", "knows a.1"]
        for row in ("cut b.1.1", "order a.1.1 b.1.1", "put b.1.1 foot", "put head b.1.2"):
            self.wrong(14, *rows, row)
        self.good(*rows, "cut a.1.1")

    def test_texts(self):
        rows = [*TWO, "patch c 1", "knows a.1", "put head foot"]
        for row in ("+one", "+two", "+three", "=3", "=00", "=01", "=-1", "=", "= 0", "=0 ", "=a", "=" + "9" * 5000, "+" + "x" * 41, "", "one", " +x",
                    "cut a.1.1", "patch d 1", "head main a.1"):
            self.wrong(15, *rows, row)
        self.good(*rows, "+" + "x" * 40, "=3", "=0", "+", "+ ", "=4", "=5", "++one", "+=0")
        self.wrong(17, *rows, "+x", "=3", "+x")
        self.wrong(16, *rows, "+x", "=4")
        self.wrong(15, *rows)
        self.wrong(17, *rows, "=1", "cut c.1.1", "+y")

    def test_not_too_many(self):
        rows = ["pack", "patch a 1", "knows none", "put head foot", "+x"]
        self.good(*rows, *["=0"] * 199)
        self.refused(BadPack, {"row": 205}, pack_read, with_sum(*rows, *["=0"] * 200))
        self.refused(BadPack, {"row": 205}, pack_read, with_sum(*rows, *["=0"] * 199, "+y"))
        self.good(*rows, *["cut a.1.1"] * 399)
        for row in ("cut a.1.1", "put head foot", "nothing", "+z"):
            self.refused(BadPack, {"row": 405}, pack_read, with_sum(*rows, *["keep a.1.1"] * 399, row))
        self.good(*rows, *["keep a.1.1"] * 399, "patch b 1", "knows none")

    def test_sum(self):
        for row in ("sum", "sum 1 1", "sum none", "sums", "Sum 1", "sum -1", "sum 01", "sum  1", "sum 1000000007", "sum " + "9" * 6000):
            self.refused(BadPack, {"row": 12}, pack_read, "\n".join([*TWO, row]))
        good = sum_row(TWO)
        for row in (good + " ", good[:-1], good + "0", good.replace("sum ", "sum 0"), good[:4] + str(int(good[4:]) + 1000000007), good + "\n" + good):
            due = 13 if "\n" in row else 12
            self.refused(BadPack, {"row": due}, pack_read, "\n".join([*TWO, row]))
        for more in ("", "patch c 1", "head main a.1", "sum 1"):
            self.refused(BadPack, {"row": 13}, pack_read, with_sum(*TWO) + "\n" + more)


class Heads(ReadCase):

    def test_heads(self):
        for row in ("head", "head main", "head main a.1 b.1", "head main b.1 a.1", "head main b.1 b.1", "head main none a.1", "head main a.1 none",
                    "head main c.1", "head Main a.1", "head ninesigns a.1", "head main a.01", "head  main a.1", "head main a.1 ", "head main gone",
                    "heads main a.1", "state 0 none main a.1", "main a.1", "patch a 1", "+one", "head main a.1.1", "head a.1"):
            self.wrong(12, *TWO, row)
        self.good(*TWO, "head main a.1")
        self.good(*TWO, "head a a.1", "head aa b.1", "head b none", "head none none")

    def test_heads_rise(self):
        for one, other in (("main", "main"), ("main", "a"), ("b", "ab"), ("ab", "a")):
            self.wrong(13, *TWO, f"head {one} a.1", f"head {other} b.1")
        self.wrong(14, *TWO, "head a a.1", "head c a.1", "head b a.1")

    def test_what_stands_behind_heads(self):
        for row in ("patch c 1", "states 1 0 none", "cut a.1.1", "state 0 none main a.1", "", "pack"):
            self.wrong(13, *TWO, "head main a.1", row)

    def test_tops_by_ways_through_others(self):
        rows = [*TWO, "patch c 1", "knows b.1"]
        self.wrong(14, *rows, "head main a.1 c.1")
        self.good(*rows, "patch d 1", "knows a.1", "head main c.1 d.1")


class States(ReadCase):

    def test_good(self):
        self.good(*TWO, "states 1 0 none")
        self.good("pack", "states 1 0 none", "head main none")
        self.good("pack", "states 2 0 1", "state 0 none main none")
        self.good(*TWO, "states 3 2 2", "head main b.1", "state 0 none main gone", "state 0 none main a.1")
        history = pack_read(with_sum(*TWO, "states 3 2 1", "head a a.1", "state 0 2 b none", "state 1 none b b.1"))
        self.assertIsInstance(history, History)
        self.assertEqual(history.told(), (2, ((None, 1, (("a", (A1,)),)), (0, 2, (("a", (A1,)), ("b", ()))), (1, None, (("a", (A1,)), ("b", (A1, B1)))))))
        self.assertEqual(history.store_at(2).names(), [A1, B1])

    def test_states_row(self):
        for row in ("states", "states 1", "states 1 0", "states 1 0 none none", "states 0 0 none", "states 1 1 none", "states 1 0 0", "states 1 0 1",
                    "states 2 0 none", "states 2 1 none", "states 2 0 2", "states 2 0 0", "states 2 2 1", "states 01 0 none", "states 1 00 none",
                    "states 2 0 01", "states -1 0 none", "states a 0 none", "states none 0 none", "states 1 none none", "states  1 0 none", "states 1 0 None",
                    "states 3 1 2", "states 4 1 3", "states 5 0 5"):
            self.wrong(12, *TWO, row, "head main a.1")
        self.refused(BadPack, {"row": 13}, pack_read, "\n".join([*TWO, "states 7000000 6999999 6999998"]))
        self.refused(BadPack, {"row": 13}, pack_read, with_sum(*TWO, "states 7000000 6999999 6999998"))
        self.refused(BadPack, {"row": 13}, pack_read, with_sum(*TWO, "states 1" + "0" * 5000 + " " + "9" * 5000 + " 1"))
        self.refused(BadPack, {"row": 12}, pack_read, with_sum(*TWO, "states 1" + "0" * 5000 + " 1" + "0" * 5000 + " 1"))

    def test_state_rows(self):
        rows = [*TWO, "states 3 0 1", "head main a.1"]
        for row in ("state", "state 0", "state 0 none", "state 0 none main", "state 1 none main b.1", "state none none main b.1", "state 0 1 main b.1",
                    "state 0 0 main b.1", "state 0 3 main b.1", "state 00 none main b.1", "state -1 none main b.1", "state 0 02 main b.1", "state 0 none Main b.1",
                    "state 0 none main a.1", "state 0 none other gone", "state 0 none main gone b.1", "state 0 none main a.1 b.1", "state 0 none main c.1",
                    "state 0 none main none none", "states 0 none main b.1", "head a b.1", "state  0 none main b.1", "state 0 none  main b.1", "sum 1", "",
                    "state 0 None main b.1", "patch c 1", "state 2 none main b.1", "state 0 none ninesigns b.1"):
            self.wrong(14, *rows, row)
        for one, other in product(("state 0 none main b.1", "state 0 none main none", "state 0 none main gone", "state 0 none a none"),
                                  ("state 0 none main b.1", "state 0 none main gone", "state 0 none a a.1")):
            self.good(*rows, one, other)
        self.good(*rows, "state 0 2 main b.1", "state 1 none main a.1")
        self.good(*rows, "state 0 2 main gone", "state 1 none main a.1")
        self.wrong(15, *rows, "state 0 2 main gone", "state 1 none main gone")
        self.wrong(15, *rows, "state 0 2 main b.1", "state 0 none main none")
        self.wrong(15, *rows, "state 0 none main b.1", "state 1 none main none")
        self.wrong(15, *rows, "state 0 none main b.1")
        self.wrong(15, *rows, "state 0 none main b.1", "head z none")
        self.wrong(16, *rows, "state 0 none main b.1", "state 0 none main none", "state 0 none main gone")
        self.wrong(16, *rows, "state 0 none main b.1", "state 0 none main none", "head z none")

    def test_latest_and_here(self):
        # Redo leads from no two states to the same one, and to a child of the state from which it leads.
        self.wrong(4, "pack", "states 4 0 3", "state 0 2 a none", "state 1 3 b none", "state 2 none c none")
        self.wrong(5, "pack", "states 4 0 1", "state 0 3 a none", "state 0 none b none", "state 0 none c none")
        self.wrong(4, "pack", "states 4 3 3", "state 0 none a none", "state 1 none b none", "state 0 none c none")
        # State 3 isn't the latest of any state: behind state 2 none can have it any more.
        self.wrong(4, "pack", "states 4 3 1", "state 0 none a none", "state 0 none b none", "state 0 none c none")
        self.wrong(4, "pack", "states 4 3 1", "state 0 2 a none", "state 1 none b none", "state 1 none c none")
        self.good("pack", "states 4 3 1", "state 0 none a none", "state 0 3 b none", "state 2 none c none")
        self.good("pack", "states 4 3 1", "state 0 3 a none", "state 0 none b none", "state 1 none c none")
        self.wrong(2, "pack", "states 4 1 2", "state 0 none a none")
        self.wrong(3, "pack", "states 4 2 1", "state 0 3 a none", "state 1 none b none")
        self.wrong(3, "pack", "states 4 2 1", "state 0 none a none", "state 0 none b none")
        self.good("pack", "states 4 2 1", "state 0 2 a none", "state 1 none b none", "state 1 none c none")

    def test_all_trees(self):
        # All rows of parents and latest ones, as far as they can be told: just those that begin a tree.
        for count, here in ((count, here) for count in (1, 2, 3, 4) for here in range(count)):
            trees = [states for states in self.states_of(count) if is_tree(here, states)]
            self.assertTrue(trees)
            self.go_on(count, here, [], trees)

    def states_of(self, count):
        """All rows of parents and latest ones that may be a tree."""
        latest = [None, *range(count)]
        rows = [[(None, word)] for word in latest]
        for number in range(1, count):
            rows = [row + [(parent, word)] for row in rows for parent in range(number) for word in latest]
        return rows

    def go_on(self, count, here, states, trees):
        """See which states can stand behind those that were told."""
        number = len(states)
        text = self.states_text(count, here, states)
        if number == count:
            self.assertEqual(pack_text(pack_read(with_sum(*text))), with_sum(*text))
            return
        latest = [None, *range(count + 1)]
        for state in product([None] if number == 0 else range(count + 1), latest):
            more = [*states, state]
            rows = self.states_text(count, here, more)
            left = [tree for tree in trees if tree[:number + 1] == more]
            if left:
                self.refused(BadPack, {"row": len(rows) + 1}, pack_read, "\n".join(rows))
                self.go_on(count, here, more, left)
            else:
                self.refused(BadPack, {"row": len(rows)}, pack_read, "\n".join(rows))
                self.refused(BadPack, {"row": len(rows)}, pack_read, with_sum(*rows))

    def states_text(self, count, here, states):
        words = [["none" if word is None else str(word) for word in state] for state in states]
        rows = [f"states {count} {here} {words[0][1]}"] if states else []
        return ["pack", *rows, *[f"state {parent} {latest} {'abcd'[at]} none" for at, (parent, latest) in enumerate(words[1:])]]


class Again(ReadCase):

    def test_stores(self):
        for seed in range(40):
            store = line_web(seed, 9)
            names = store.names()
            for head, step in (("main", 2), ("side", 5), ("none", 100)):
                store.set_head(head, store.closed_by(names[seed % step::step][:step]))
            text = pack_text(store)
            other = pack_read(text)
            self.assertIsInstance(other, Store)
            self.assertEqual(told_of(other), told_of(store))
            self.assertEqual(pack_text(other), text)
            other.put_patch(putting(("n", 1), names))
            other.pick("none", ("n", 1))
            self.assertEqual(other.head_set("none"), sorted([*names, ("n", 1)]))

    def test_histories(self):
        for seed in range(60):
            history = some_history(seed, 5)
            text = pack_text(history)
            other = pack_read(text)
            self.assertIsInstance(other, History)
            self.assertEqual(all_told(other), all_told(history))
            self.assertEqual(pack_text(other), text)
            for one in (history, other):
                one.set_head("new", [])
                one.go(0)
                one.set_head("more", [])
                one.sweep()
            self.assertEqual(all_told(other), all_told(history))


def bent(some, text):
    """A text with one thing changed."""
    rows = text.split("\n")
    at, other = next(some) % len(rows), next(some) % len(rows)
    sort = next(some) % 9
    words = rows[at].split(" ")
    if sort == 0:
        place = next(some) % len(text)
        sign = " \n0123abcdehknorstu+=."[next(some) % 21]
        return text[:place] + sign + text[place + 1:]
    if sort == 1:
        words[next(some) % len(words)] = rows[other].split(" ")[next(some) % len(rows[other].split(" "))]
    elif sort == 2:
        del words[next(some) % len(words)]
    elif sort == 3:
        words.insert(next(some) % (len(words) + 1), rows[other].split(" ")[-1])
    elif sort == 4:
        del rows[at]
        return "\n".join(rows)
    elif sort == 5:
        rows.insert(other, rows[at])
        return "\n".join(rows)
    elif sort == 6:
        rows[at], rows[other] = rows[other], rows[at]
        return "\n".join(rows)
    elif sort == 7:
        return text[:next(some) % len(text)]
    else:
        signs = [place for place, sign in enumerate(rows[at]) if sign.isdigit()]
        if signs:
            place = signs[next(some) % len(signs)]
            return "\n".join(rows[:at] + [rows[at][:place] + str(next(some) % 5) + rows[at][place + 1:]] + rows[at + 1:])
    return "\n".join(rows[:at] + [" ".join(words)] + rows[at + 1:])


def summed(text):
    """A text whose last row tells the right sum."""
    rows = text.split("\n")
    rows = rows[:-1] if rows[-1].startswith("sum") else rows
    return "\n".join([*rows, sum_row(rows)])


class Bent(ReadCase):

    def test_packs(self):
        rows = {}
        for seed in range(60):
            kept = some_history(seed, 3 + seed % 4)
            text = pack_text(kept if seed % 4 else kept.store_at(0))
            some = chances(seed)
            for _ in range(16):
                other = bent(some, text)
                for told in (other, summed(other)):
                    due = wrong_row(told)
                    if due is None:
                        self.assertEqual(pack_text(pack_read(told)), told)
                    else:
                        self.refused(BadPack, {"row": due}, pack_read, told)
                        where = (told.split("\n") + [""])[due - 1].split(" ")[0][:4]
                        rows[where] = rows.get(where, 0) + 1
        for where in ("patc", "know", "head", "stat", "sum"):
            self.assertGreater(rows.get(where, 0), 20, rows)

    def test_cut_off_anywhere(self):
        text = pack_text(some_history(11, 3))
        for many in range(len(text)):
            due = wrong_row(text[:many])
            self.refused(BadPack, {"row": due}, pack_read, text[:many])

    def test_thin_packs(self):
        for seed in range(60):
            store = line_web(seed, 4 + seed % 5)
            some = chances(seed)
            names = [store.names()[next(some) % len(store.names())] for _ in range(2)]
            have = store.closed_by([store.names()[next(some) % len(store.names())]])
            text = thin(store, names, have)
            self.assertIsNone(wrong_thin_row(text))
            for _ in range(25):
                other = bent(some, text)
                for told in (other, summed(other)):
                    due = wrong_thin_row(told)
                    target = Store()
                    if due is not None:
                        self.refused(BadPack, {"row": due}, thick, target, told)
                        self.assertEqual(target.names(), [])


class Thick(ReadCase):

    def setUp(self):
        self.store = put_all([putting(name, knows, [name[0], "x"]) for name, knows in (
            (A1, []), (D1, []), (B1, [A1]), (B2, [A1]), (A2, [B1]), (C1, [A2, B2]))])
        self.store.set_head("main", [A1])

    def wrong_thin(self, row, *rows):
        for text in (with_sum(*rows), "\n".join(rows)):
            due = row if row <= len(rows) else len(rows) + 1
            self.assertEqual(wrong_thin_row(text), due, rows)
            before = told_of(self.store)
            self.refused(BadPack, {"row": due}, thick, self.store, text)
            self.assertEqual(told_of(self.store), before)

    def good_thin(self, *rows):
        """See that these rows and a sum are a thin pack, whatever a store does with it."""
        text = with_sum(*rows)
        self.assertIsNone(wrong_thin_row(text))
        try:
            thick(Store(), text)
        except (NotClosed, BadPatch):
            pass
        self.refused(BadPack, {"row": len(rows) + 1}, thick, Store(), "\n".join(rows))

    def test_into_stores_that_have_what_is_needed(self):
        text = thin(self.store, [C1, D1], [A1, B1])
        other = put_all([self.store.patch_of(name) for name in (A1, B1)])
        other.set_head("own", [B1, A1])
        self.assertEqual(thick(other, text), [A2, B2, C1, D1])
        self.assertEqual([other.patch_of(name).told() for name in other.names()],
                         [self.store.patch_of(name).told() for name in self.store.names()])
        self.assertEqual((other.heads(), other.head_set("own")), (["own"], [A1, B1]))
        self.assertEqual(thick(other, text), [])
        other = put_all([self.store.patch_of(name) for name in (A1, B1, B2, D1)])
        self.assertEqual(thick(other, text), [A2, C1])
        self.assertEqual(thick(other, thin(self.store, [], [])), [])
        self.assertEqual(thick(Store(), thin(self.store, self.store.names(), [])), [A1, B1, A2, B2, C1, D1])

    def test_into_stores_that_lack_it(self):
        text = thin(self.store, [C1, D1], [A1, B1])
        for names, lacking in (((), [B1]), ((A1,), [B1]), ((D1,), [B1])):
            other = put_all([self.store.patch_of(name) for name in names])
            before = told_of(other)
            self.refused(NotClosed, {"lacking": lacking}, thick, other, text)
            self.assertEqual(told_of(other), before)
        # The first patch could be put, the second one can't.
        text = thin(self.store, [B2, A2], [A1])
        other = put_all([putting(A1, (), ["a", "x"]), putting(A2)])
        before = told_of(other)
        self.refused(Unlike, {"name": A2}, thick, other, text)
        self.assertEqual(told_of(other), before)
        self.refused(NotClosed, {"lacking": [A1]}, thick, Store(), text)

    def test_another_patch_of_a_name(self):
        text = thin(self.store, [A2, D1], [])
        other = put_all([putting(D1, (), ["other"])])
        before = told_of(other)
        self.refused(Unlike, {"name": D1}, thick, other, text)
        self.assertEqual(told_of(other), before)
        # Another a.1 has fewer lines.
        store = put_all([putting(A1, (), ["a", "b"]), Patch(B1, [A1], [("cut", ("a", 1, 2))]), putting(("c", 2))])
        text = thin(store, [B1, ("c", 2)], [A1])
        other = put_all([putting(A1)])
        self.refused(BadPatch, {"deed": 1}, thick, other, text)
        self.assertEqual(other.names(), [A1])

    def test_no_text(self):
        for thing in [thing for thing in ANYTHING if not isinstance(thing, str)]:
            self.refused(BadPack, {"row": 1}, thick, self.store, thing)
        for row in ("", "pack", "Thin", "thin ", "thick", "patch a 1"):
            self.wrong_thin(1, row)
        self.refused(BadPack, {"row": 1}, thick, self.store, pack_text(self.store))
        self.refused(BadPack, {"row": 1}, pack_read, thin(self.store, [A1], []))

    def test_names_that_stood_or_were_known_or_named(self):
        self.good_thin("thin", "patch b 1", "knows a.1", "patch c 1", "knows a.1 a.2")
        self.wrong_thin(4, "thin", "patch b 1", "knows a.1", "patch b 1", "knows a.1")
        self.wrong_thin(4, "thin", "patch b 1", "knows a.1", "patch a 1", "knows none")
        self.wrong_thin(5, "thin", "patch b 1", "knows a.1", "cut c.9.4", "patch c 9", "knows b.1")
        self.wrong_thin(5, "thin", "patch b 1", "knows a.1", "put c.9.4 foot", "patch c 9", "knows b.1")
        self.good_thin("thin", "patch b 1", "knows a.1", "cut c.9.4", "patch c 8", "knows b.1 c.9")
        self.wrong_thin(3, "thin", "patch b 1", "knows b.1")

    def test_order(self):
        self.wrong_thin(5, "thin", "patch b 1", "knows none", "patch a 1", "knows none")
        self.wrong_thin(7, "thin", "patch b 1", "knows z.1", "patch c 1", "knows z.1", "patch a 1", "knows b.1")
        self.wrong_thin(7, "thin", "patch y 1", "knows z.1", "patch a 1", "knows y.1", "patch m 1", "knows none")
        # Where it knows what doesn't stand there, that may come ahead of it wherever it stands.
        self.good_thin("thin", "patch b 1", "knows none", "patch a 1", "knows a.9")
        self.good_thin("thin", "patch b 1", "knows z.1", "patch c 1", "knows z.1", "patch a 1", "knows b.1 z.1")

    def test_lines(self):
        rows = ["thin", "patch a 1", "knows none", "put head foot", "+x", "patch b 1", "knows a.1", "put a.1.1 foot", "=0"]
        self.good_thin(*rows, "cut a.1.1", "cut b.1.1")
        for row in ("cut a.1.2", "cut c.1.1", "order a.1.1 c.1.1", "cut b.1.2", "put c.1.1 foot"):
            self.wrong_thin(10, *rows, row)
        # b.1 knows nothing that doesn't stand there, also by a.1; with a z.1 that a.1 knows it may know any other one.
        rows[2] = "knows z.1"
        self.good_thin(*rows, "cut c.1.7", "order a.1.1 z.1.5", "put d.1.1 d.1.2", "+y")
        self.wrong_thin(10, *rows, "cut a.1.2")
        self.wrong_thin(12, *rows, "patch c 1", "knows z.1", "cut b.1.1")
        self.good_thin(*rows, "patch c 1", "knows b.1", "cut b.1.1", "cut y.1.1")

    def test_rows(self):
        rows = ["thin", "patch a 1", "knows z.1", "put head foot", "+x", "=0"]
        for row in ("head main a.1", "states 1 0 none", "=0 ", "+x", "=1", "", "pack", "thin", "sum", "sum 1"):
            self.refused(BadPack, {"row": 7}, thick, self.store, "\n".join([*rows, row]))
        self.refused(BadPack, {"row": 8}, thick, self.store, with_sum(*rows) + "\n")
        self.wrong_thin(3, *rows[:2])
        self.wrong_thin(5, *rows[:4])
        for row in ("knows", "knows none z.1", "knows z.1 a.2", "knows z.01"):
            self.wrong_thin(3, *rows[:2], row)

    def test_again(self):
        for seed in range(40):
            store = line_web(seed, 9)
            names, have = store.names()[seed % 3::3], store.closed_by(store.names()[seed % 5:seed % 5 + 1])
            text = thin(store, names, have)
            other = put_all([store.patch_of(name) for name in have_in_order(store, have)])
            new = thick(other, text)
            self.assertEqual(sorted(new), sorted(set(store.closed_by(names)) - set(have)))
            self.assertEqual([f"patch {hand} {number}" for hand, number in new], [row for row in text.split("\n") if row.startswith("patch ")])
            self.assertEqual([other.patch_of(name).told() for name in other.names()], [store.patch_of(name).told() for name in other.names()])
            self.assertEqual(thin(other, names, have), text)


def have_in_order(store, names):
    """Names of a closed set, each behind what it knows."""
    return sorted(names, key=lambda name: len(store.knows_all(name)))
