"""[60]: least differences of two rows of texts."""

from itertools import combinations, product

from manyheads.alike import least_change, least_cost
from helpers import Case, chances


def like_pairs(rows, others):
    return [(i, j) for i, j in product(range(len(rows)), range(len(others))) if rows[i] == others[j]]


def kept_together(pairs):
    return all(one[0] < other[0] and one[1] < other[1] for one, other in zip(pairs, pairs[1:]))


def by_all_rows(rows, others):
    """The least change and its levels, by looking at each set of like pairs."""
    pairs = like_pairs(rows, others)
    good = [list(some) for many in range(len(pairs) + 1) for some in combinations(pairs, many) if kept_together(some)]
    most = max(len(some) for some in good)
    levels = [[] for _ in range(most)]
    for pair in pairs:
        levels[max(len(some) for some in good if some and some[-1] == pair) - 1].append(pair)
    return min(some for some in good if len(some) == most), levels


class Alike(Case):

    def test_told(self):
        for rows, others, kept, levels in (
                ([], [], [], []), (["a"], [], [], []), ([], ["a", "b"], [], []), (["a"], ["b"], [], []),
                (["a"], ["a"], [(0, 0)], [[(0, 0)]]), (["a", "b"], ["b", "a"], [(0, 1)], [[(0, 1), (1, 0)]]),
                (["a", "a"], ["a"], [(0, 0)], [[(0, 0), (1, 0)]]), (["a"], ["a", "a"], [(0, 0)], [[(0, 0), (0, 1)]]),
                (["a", "a"], ["a", "a"], [(0, 0), (1, 1)], [[(0, 0), (0, 1), (1, 0)], [(1, 1)]]),
                (["a", "b", "c"], ["a", "c", "b"], [(0, 0), (1, 2)], [[(0, 0)], [(1, 2), (2, 1)]]),
                (["", "x", ""], ["x", "", "x"], [(0, 1), (1, 2)], [[(0, 1), (1, 0)], [(1, 2), (2, 1)]])):
            told = least_change(rows, others)
            self.assertEqual(told, (kept, levels))
            self.assertIsInstance(told, tuple)
            self.assertEqual(least_cost(rows, others), len(rows) + len(others) - 2 * len(kept))

    def test_of_several_the_least(self):
        self.assertEqual(least_change(list("ab"), list("ba"))[0], [(0, 1)])
        self.assertEqual(least_change(list("abc"), list("cab"))[0], [(0, 1), (1, 2)])
        self.assertEqual(least_change(list("xab"), list("abx"))[0], [(1, 0), (2, 1)])
        self.assertEqual(least_change(list("aab"), list("ab"))[0], [(0, 0), (2, 1)])
        self.assertEqual(least_change(list("abab"), list("ab"))[0], [(0, 0), (1, 1)])
        self.assertEqual(least_change(list("ab"), list("abab"))[0], [(0, 0), (1, 1)])
        self.assertEqual(least_change(list("abcd"), list("dcba"))[0], [(0, 3)])

    def test_cost(self):
        for rows, others, cost in (("", "", 0), ("abc", "", 3), ("", "ab", 2), ("abc", "abc", 0), ("abc", "xyz", 6),
                                   ("abc", "axc", 2), ("kitten", "sitting", 5)):
            self.assertEqual(least_cost(list(rows), list(others)), cost)

    def test_all_short_rows(self):
        rows = [list(row) for many in range(4) for row in product("ab", repeat=many)]
        for one, other in product(rows, rows):
            self.assertEqual(least_change(one, other), by_all_rows(one, other))

    def test_more_rows(self):
        some = chances(5)
        for _ in range(60):
            letters = "abcd"[:1 + next(some) % 4]
            one, other = ([letters[next(some) % len(letters)] for _ in range(next(some) % 6)] for _ in range(2))
            if len(like_pairs(one, other)) <= 12:
                self.assertEqual(least_change(one, other), by_all_rows(one, other))

    def test_levels_show_that_no_more_can_be_kept(self):
        some = chances(9)
        for many in (1, 2, 5, 30):
            one, other = ([str(next(some) % many) for _ in range(60)] for _ in range(2))
            kept, levels = least_change(one, other)
            self.assertTrue(kept_together(kept))
            self.assertEqual(len(levels), len(kept))
            self.assertEqual(sorted(pair for level in levels for pair in level), like_pairs(one, other))
            for level in levels:
                self.assertEqual(level, sorted(level))
                self.assertFalse(any(kept_together(pair) for pair in combinations(level, 2)))

    def test_long_rows(self):
        some = chances(2)
        for many in (1, 2, 20, 10 ** 6):
            one, other = ([f"{next(some) % many:>40}" for _ in range(200)] for _ in range(2))
            kept, levels = least_change(one, other)
            self.assertTrue(kept_together(kept) and all(one[i] == other[j] for i, j in kept))
            # The length by the usual table.
            row = [0] * 201
            for text in one:
                before = list(row)
                for j in range(200):
                    row[j + 1] = before[j] + 1 if text == other[j] else max(before[j + 1], row[j])
            self.assertEqual(len(kept), row[200])
            self.assertEqual(least_cost(one, other), 400 - 2 * row[200])
            self.assertEqual(sum(map(len, levels)), len(like_pairs(one, other)))
        self.assertEqual(least_change(["a"] * 200, ["a"] * 200)[0], [(at, at) for at in range(200)])

    def test_what_is_handed_in_stays(self):
        rows, others = ["a", "b"], ["b", "a", "b"]
        told = least_change(rows, others)
        least_cost(rows, others)
        self.assertEqual((rows, others), (["a", "b"], ["b", "a", "b"]))
        told[0].clear()
        told[1][0].clear()
        self.assertEqual(least_change(rows, others)[0], [(0, 1), (1, 2)])
