"""Over the whole: all that is told of a set follows from the set alone, by whatever way it came."""

import os
import re
from itertools import islice

from manyheads.check import check
from manyheads.history import History
from manyheads.knowing import View, known_by
from manyheads.marks import all_lines, last_marks, marks_of, state_of, told_lines
from manyheads.order import all_behind, bound_behind
from manyheads.pack import pack_text, thin
from manyheads.packread import pack_read, thick
from manyheads.paper import claims_of, paper_for
from manyheads.patchread import read_patches
from manyheads.patchtext import patches_text
from manyheads.quarrels import is_plain, quarrels, ways_to_settle
from manyheads.record import recorded
from manyheads.rings import loose_pairs, rings_of
from manyheads.sets import log_of, tops
from manyheads.sheet import knots, sheet_texts, told_row
from manyheads.shell import Shell
from manyheads.store import Store
from manyheads.story import changed, story, turns, who
from manyheads.talk import Fetch, reply
from manyheads.words import name_text
from helpers import Case, chances, put_all
from plain import line_web

README = os.path.join(os.path.dirname(os.path.dirname(os.path.abspath(__file__))), "README.md")


def told_of_set(store, head):
    """All that is told of a head's set."""
    names = store.head_set(head)
    view = View(store, names)
    lines = [line for line in all_lines(view) if line[0]]
    claims = claims_of(view)
    return (
        names, tops(store, names), log_of(store, names), [view.patch_of(name).told() for name in names], [known_by(view, name) for name in names],
        all_lines(view), told_lines(view), [(marks_of(view, line), last_marks(view, line), state_of(view, line)) for line in lines],
        [(bound_behind(view, line), all_behind(view, line)) for line in all_lines(view)], rings_of(view), loose_pairs(view), knots(view),
        told_row(view), sheet_texts(view), quarrels(view), is_plain(view), [ways_to_settle(view, quarrel) for quarrel in quarrels(view)],
        claims, [paper_for(view, claim) for claim in claims], [(story(view, line), turns(view, line)) for line in lines], who(view))


def told_by_shell(shell):
    return [shell.say(word + " main") for word in ("log", "sheet", "lines", "quarrels", "paper main stands a.1.1", "story main a.1.1")]


def put_in_order(store, names):
    """A store that took some patches of another one in this order, again and again those that it could."""
    other, left = Store(), list(names)
    while left:
        ready = [name for name in left if all(known in other.names() for known in store.knows_all(name))]
        other.put_patch(store.patch_of(ready[0]))
        left.remove(ready[0])
    return other


class Whole(Case):

    def stores(self, seed):
        """Stores each of which came to the set of a head by another way; the first one as plainly as can be."""
        some = chances(seed + 5)
        web = line_web(seed, 8)
        names = web.names()
        picked = [names[next(some) % len(names)] for _ in range(2)]
        inside = web.closed_by(picked)
        web.set_head("main", inside)
        yield web
        for shift in (1, 3):
            other = put_in_order(web, sorted(names, key=lambda name: hash_of(name, seed + shift)))
            for head, name in zip(("one", "two"), picked[::-1]):
                other.set_head(head, other.closed_by([name]))
            other.set_head("main", [])
            for head in other.heads():
                other.merge_heads("main", head)
            yield other
        other = Store()
        for patch in read_patches(patches_text([web.patch_of(name) for name in log_of(web, names)])):
            other.put_patch(patch)
        other.set_head("main", other.names())
        for name in [name for name in log_of(other, other.names()) if name not in inside][::-1]:
            other.take_out("main", name)
        yield other
        fetch = Fetch(Store())
        while fetch.asks() is not None:
            fetch.hears(reply(web, fetch.asks()))
        other = fetch.held()
        other.set_head("main", [])
        for name in picked:
            other.pick("main", name)
        yield other
        yield pack_read(pack_text(web))
        other = Store()
        have = web.closed_by(picked[:1])
        thick(other, thin(web, picked[:1], []))
        thick(other, thin(web, names, have))
        other.set_head("main", inside)
        yield other
        history = History(web)
        history.drop_head("main")
        history.undo()
        history.take_with("main", inside[0])
        history.set_head("other", [])
        history.sweep()
        history = pack_read(pack_text(history))
        history.undo()
        history.undo()
        yield history.store_at(history.here())

    def test_all_that_is_told(self):
        for seed in range(24):
            stores = list(self.stores(seed))
            self.assertEqual(len(stores), 8)
            due = told_of_set(stores[0], "main")
            for other in stores[1:]:
                self.assertEqual(told_of_set(other, "main"), due)
            rows = due[13][::2] + ["new"]
            patch = recorded(stores[0], "main", "new", rows)
            for other in stores[1:]:
                self.assertEqual(recorded(other, "main", "new", rows).told(), patch.told())
            names = sorted(set(stores[0].head_set("main")))
            store = put_all([stores[0].patch_of(name) for name in log_of(stores[0], names)])
            store.set_head("main", names)
            text = pack_text(store)
            for other in stores[1:]:
                for head in other.heads():
                    other.drop_head(head) if head != "main" else None
                other.sweep([])
                self.assertEqual(pack_text(other), text)

    def test_shells(self):
        for seed in range(12):
            web = line_web(3 * seed + 1, 8)
            names, rows = web.names(), patches_text([web.patch_of(name) for name in log_of(web, web.names())])
            one, two = Shell(), Shell()
            words = " ".join(name_text(name) for name in tops(web, names))
            for text in ("take\n" + rows, "set main " + words):
                self.assertEqual(one.say(text), "done")
            for text in ("take\n" + rows, "set main none", *["pick main " + name_text(name) for name in log_of(web, names)], "drop main", "undo",
                         "with main " + name_text(names[0]), "undo", "set main " + words, "unpack\n" + "@", "redo", "undo"):
                two.say(text.replace("@", two.say("pack")))
            self.assertEqual(told_by_shell(one), told_by_shell(two))

    def test_what_changed_by_a_recorded_change(self):
        for seed in range(12):
            store = line_web(seed, 6)
            store.set_head("main", store.names())
            store.set_head("old", store.names())
            rows = sheet_texts(View(store, store.names()))[1:] + ["w"]
            patch = recorded(store, "main", "new", rows)
            store.put_patch(patch)
            store.pick("main", patch.told()[0])
            view = View(store, store.head_set("main"))
            self.assertEqual((sheet_texts(view), quarrels(view)), (rows, []))
            gone, new = changed(store, "old", "main")
            self.assertEqual([line[:2] for line in new], [patch.told()[0]] * len(new))
            self.assertEqual([state_of(view, line) for line in gone], ["gone"] * len(gone))
            told = [view.patch_of(name).told() for name in view.names()]
            for claim in islice(claims_of(view), 0, None, 3):
                self.assertIsNone(check(told, view.names(), claim, paper_for(view, claim)))

    def test_the_readme(self):
        with open(README, encoding="utf-8") as file:
            parts = re.findall("```python\n(.*?)```", file.read(), re.S)
        self.assertGreaterEqual(len(parts), 3)
        due = [row.split("  # ")[1] for part in parts for row in part.split("\n") if "  # " in row]
        printed = []
        exec("\n".join(parts), {"print": lambda *things: printed.append(" ".join(map(str, things)))})
        self.assertEqual(printed, due)


def hash_of(name, seed):
    """A number that parts names in an order of its own for each seed."""
    return next(islice(chances(seed * 31 + name[1] * 7 + ord(name[0])), 3, None))


