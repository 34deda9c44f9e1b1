"""[30], [32], [40], [42]: views that grow, are copied and asked in between tell what views made at once tell."""

import time
from unittest.mock import patch

from manyheads.knowing import View, known_by
from manyheads.marks import all_lines, last_marks, marks_of, state_of, text_of
from manyheads.order import all_behind, bound_behind, is_ahead, no_way, way_ahead
from manyheads.paper import claims_of, paper_for
from manyheads.patch import Patch
from manyheads.quarrels import quarrels
from manyheads.rings import loose_pairs, ring_of, rings_of
from manyheads.sheet import knots, sheet_texts, told_row
from manyheads.store import Store
from helpers import FOOT, HEAD, Case, chances, put_all
from plain import line_web, plain_of


def asked(view, line):
    return (marks_of(view, line), state_of(view, line), all_behind(view, line), ring_of(view, line))


def asked_of_all(view):
    return [asked(view, line) for line in all_lines(view)]


def all_told(view):
    lines = all_lines(view)
    pairs = [(one, other) for one in lines for other in lines if one != other]
    return (view.names(), [known_by(view, name) for name in view.names()], lines, asked_of_all(view),
            [(text_of(view, line), last_marks(view, line), bound_behind(view, line)) for line in lines],
            [(is_ahead(view, *pair), way_ahead(view, *pair), no_way(view, *pair)) for pair in pairs], rings_of(view), loose_pairs(view),
            knots(view), told_row(view), sheet_texts(view), quarrels(view), [paper_for(view, claim) for claim in claims_of(view)])


def ready_names(view, names):
    """Those of some names that a view hasn't, and can take."""
    there = view.names()
    return [name for name in names if name not in there and all(known in there for known in NEEDED[name])]


NEEDED = {}


class Growing(Case):

    def grow(self, seed, ask_all):
        store = line_web(seed, 9)
        some = chances(seed)
        names = store.names()
        NEEDED.clear()
        NEEDED.update({name: store.knows_all(name) for name in names})
        views = [View(store, [])]
        for _ in range(40):
            at = next(some) % len(views)
            view, sort = views[at], next(some) % 5
            if sort == 0 and len(views) < 6:
                views.append(view.copied())
            elif sort == 1:
                asked_of_all(view)
            elif sort == 2:
                ask_all(view)
            elif ready_names(view, names):
                ready = ready_names(view, names)
                told = [ask_all(other) for other in views if other is not view]
                self.assertIs(view.add_patch(ready[next(some) % len(ready)]), True)
                self.assertEqual([ask_all(other) for other in views if other is not view], told)
            self.assertEqual(ask_all(view), ask_all(View(store, view.names())))
        return views

    def test_few_lines(self):
        for seed in range(6):
            self.grow(seed, all_told)

    def test_more_lines_than_are_brought_on(self):
        for most in (0, 4, 9):
            with patch("manyheads.aheads.MOST_LINES", most):
                for seed in range(2):
                    self.grow(seed, all_told)

    def test_alike_by_both_ways(self):
        for seed in range(15):
            for view in self.grow(seed, asked_of_all):
                told = all_told(view)
                with patch("manyheads.aheads.MOST_LINES", 0):
                    self.assertEqual(all_told(view.copied()), told)
                plain = plain_of(view)
                for line in plain.lines:
                    self.assertEqual(asked(view, line), (
                        sorted(plain.marks.get(line, {}).items()), plain.state(line) if line[0] else "stands",
                        [other for other in plain.lines if (line, other) in plain.ahead], plain.ring(line)))

    def test_lines_come_to_be_too_many(self):
        store = put_all([Patch(("a", number), [("a", number - 1)] if number > 1 else [], [
            ("put", HEAD, FOOT if number == 1 else ("a", number - 1, 1), ("x",) * 9), ("order", ("a", number, 9), ("a", number, 2))])
            for number in range(1, 12)])
        view = View(store, [])
        for number in range(1, 12):
            other = view.copied()
            view.add_patch(("a", number))
            self.assertEqual(ring_of(view, ("a", number, 3)), [("a", number, place) for place in range(2, 10)])
            self.assertEqual(ring_of(view, ("a", 1, 1)), [("a", 1, 1)])
            self.assertEqual(len(all_behind(view, HEAD)), 9 * number + 1)
            self.assertEqual(asked_of_all(view), asked_of_all(View(store, view.names())))
            self.assertEqual(len(all_lines(other)), 9 * number - 7)

    def test_what_was_told_stays(self):
        store = line_web(7, 9)
        view = View(store, [])
        told = []
        for name in sorted(store.names(), key=lambda name: len(store.knows_all(name))):
            view.add_patch(name)
            told.append((asked_of_all(view), repr(asked_of_all(view))))
        for rows, kept in told:
            self.assertEqual(repr(rows), kept)
        for row in told[-1][0]:
            for part in (row[0], row[2], row[3]):
                part.clear()
        self.assertEqual(repr(asked_of_all(view)), told[-1][1])

    def test_a_round_takes_little_time(self):
        """A whole round, weighed against going through its answers letter by letter."""
        store = Store()
        store.put_patch(Patch(("a", 1), [], [("put", HEAD, FOOT, tuple("abcdefghijkl"))]))
        for number in range(2, 64):
            store.put_patch(Patch(("a", number), [("a", number - 1)], [("keep", ("a", 1, 1 + number % 12)), ("keep", ("a", 1, 1 + number * 5 % 12))]))
        spent, weight = [], []
        for _ in range(5):
            begun = time.perf_counter()
            view = View(store, [])
            for number in range(1, 64):
                view.copied()
                view.add_patch(("a", number))
                asked_of_all(view)
            spent.append(time.perf_counter() - begun)
            begun = time.perf_counter()
            total = 0
            for number in range(100000):
                total = (total * 257 + number) % 1000000007
            weight.append(time.perf_counter() - begun)
        # Here it takes a third of that time; it was twice as much as long as all was gone through anew.
        self.assertLess(min(spent), min(weight))
