"""[104], [105]: the checker of hunts' papers."""

import os
import shutil
import subprocess
import sys
import tempfile

from manyheads.errors import BadPaper
from manyheads.hunt import hunt_paper
from manyheads.huntcheck import check_hunt
from helpers import ANYTHING, EQUALS, OWN_LIST, Case, chances, put_all, putting
from plainhunt import hunt_web, least_power, told

PACKAGE = os.path.join(os.path.dirname(os.path.dirname(os.path.abspath(__file__))), "manyheads")
A1, A2, A3, B1, B2, C1, D1 = ("a", 1), ("a", 2), ("a", 3), ("b", 1), ("b", 2), ("c", 1), ("d", 1)
ABSENT = ("z", 9)
WEB = [(A1, []), (D1, []), (B1, [A1]), (B2, [A1]), (A2, [B1]), (C1, [A2, B2]), (A3, [C1])]


def found(*names):
    return ("found", names)


class Wrong(Exception):
    """A part of a paper that is none."""


def is_like(thing, other):
    """Whether two things are alike in Python, and of like kinds throughout."""
    if thing.__class__ is not other.__class__:
        return False
    if isinstance(thing, tuple):
        return len(thing) == len(other) and all(is_like(one, two) for one, two in zip(thing, other))
    return thing == other


def is_number(thing, least):
    return thing.__class__ is int and thing >= least


def wrong_step(plain, paper):
    """The step at which a paper is refused, or None, read by the promises' own words."""
    if not isinstance(paper, tuple) or len(paper) != 3 or not is_number(paper[0], 0) or not is_number(paper[1], 1):
        return 0
    if paper[1] > 10 ** 6 or paper[0] != least_power(paper[1]):
        return 0
    steps, leaves, every_open = [0], [0], plain.all_open()

    def walk(tree, left, asks):
        steps[0] += 1
        if not isinstance(tree, tuple) or len(tree) not in (2, 4) or not isinstance(tree[0], str):
            raise Wrong
        if tree[0] == "found" and len(tree) == 2:
            if not is_like(tree[1], tuple(left)) or left not in plain.classes:
                raise Wrong
            leaves[0] += 1
        elif tree[0] == "ask" and len(tree) == 4:
            if asks == paper[0] or not any(is_like(tree[1], some) for some in every_open):
                raise Wrong
            inside = [name for name in left if name in tree[1]]
            if not inside or inside == left:
                raise Wrong
            walk(tree[2], inside, asks + 1)
            walk(tree[3], [name for name in left if name not in inside], asks + 1)
        else:
            raise Wrong

    try:
        walk(paper[2], plain.candidates, 0)
    except Wrong:
        return steps[0]
    return None if leaves[0] == paper[1] else steps[0] + 1


def parts_in(tree, way=()):
    """The ways to all parts of a tree."""
    rows = [way]
    if isinstance(tree, tuple) and len(tree) == 4:
        rows += parts_in(tree[2], way + (2,)) + parts_in(tree[3], way + (3,))
    return rows


def part_at(tree, way):
    for step in way:
        tree = tree[step]
    return tree


def with_part(tree, way, part):
    """A tree with another part in the place of one."""
    if not way:
        return part
    return tree[:way[0]] + (with_part(tree[way[0]], way[1:], part),) + tree[way[0] + 1:]


class CheckCase(Case):

    def setUp(self):
        self.store = put_all([putting(name, knows) for name, knows in WEB])

    def check(self, bad, goods, pairs, paper, step):
        kept = repr((bad, goods, pairs))
        patches = told(self.store)
        if step is None:
            self.assertIsNone(check_hunt(patches, bad, goods, pairs, paper))
        else:
            self.refused(BadPaper, {"step": step}, check_hunt, patches, bad, goods, pairs, paper)
        self.assertEqual((repr((bad, goods, pairs)), patches), (kept, told(self.store)))


class Papers(CheckCase):

    def test_one_class(self):
        for bad, goods, pairs, tree in (([A1], [], [], found(A1)), ([A1, B1], [[A1]], [], found(B1)),
                                        ([D1, A1], [], [(A1, D1), (D1, A1)], found(A1, D1))):
            self.check(bad, goods, pairs, (0, 1, tree), None)
            self.assertEqual(hunt_paper(self.store, bad, goods, pairs), (0, 1, tree))

    def test_other_questions_than_the_hunts_own(self):
        bad = [A1, B1, B2]
        for tree in (("ask", (A1,), found(A1), ("ask", (A1, B1), found(B1), found(B2))),
                     ("ask", (A1,), found(A1), ("ask", (A1, B2), found(B2), found(B1))),
                     ("ask", (A1, B1), ("ask", (A1,), found(A1), found(B1)), found(B2)),
                     ("ask", (A1, B2, D1), ("ask", (A1, D1), found(A1), found(B2)), found(B1)),
                     ("ask", (A1,), found(A1), ("ask", (A1, A2, B1, D1), found(B1), found(B2)))):
            self.check(bad, [], [], (2, 3, tree), None)

    def test_form(self):
        tree = ("ask", (A1,), found(A1), found(D1))
        self.check([A1, D1], [], [], (1, 2, tree), None)
        for paper in (ANYTHING + [(1, 2), (1, 2, tree, tree), [1, 2, tree], (True, 2, tree), (1, True, found(A1)), (0, True, found(A1)),
                                  (False, 1, found(A1)), (2, 2, tree), (0, 2, tree), (1, 1, tree), (1, 3, tree), (-1, 0, tree), (0, 0, tree),
                                  (0, -1, tree), (1, "2", tree), (None, 2, tree), (1, None, tree), (10 ** 30, 2, tree), tree, [], ()]):
            self.check([A1, D1], [], [], paper, 0)

    def test_count(self):
        # The first number is so for the second one, but that one isn't how many found there are.
        bad = [A1, B1, D1]
        tree = ("ask", (A1,), found(A1), ("ask", (A1, B1), found(B1), found(D1)))
        self.check(bad, [], [], (2, 3, tree), None)
        self.check(bad, [], [], (2, 4, tree), 6)
        self.check(bad, [], [], (100, 2 ** 100, tree), 6)
        self.check([A1], [], [], (1, 2, found(A1)), 2)

    def test_an_ask_too_many(self):
        bad = [A1, A2, B1, D1]
        tree = ("ask", (A1,), found(A1), ("ask", (A1, B1), found(B1), ("ask", (D1,), found(D1), found(A2))))
        self.check(bad, [], [], (2, 4, tree), 5)
        self.check(bad, [], [], (3, 5, tree), 8)
        self.check(bad, [], [], (1, 2, tree), 3)
        self.check(bad, [], [], (0, 1, tree), 1)
        # Beyond K the ask is wrong, whatever is below it.
        self.check(bad, [], [], (2, 4, with_part(tree, (3, 3, 2), None)), 5)

    def test_found(self):
        for names in ((A1,), (D1,), (), (D1, A1), (A1, A1, D1), (A1, D1, D1), (A1, B1, D1), [A1, D1], (A1, list(D1)), (("a", True), D1),
                      (A1, None), None, A1, (A1, ABSENT)):
            self.check([A1, D1], [], [(A1, D1), (D1, A1)], (0, 1, ("found", names)), 1)
        # Two classes that are left.
        self.check([A1, D1], [], [], (0, 1, found(A1, D1)), 1)
        self.check([A1, B1], [], [], (0, 1, found(A1, B1)), 1)
        self.check([A1, D1], [], [(A1, D1)], (0, 1, found(A1, D1)), 1)
        for part in (("found", (A1,), None), ("found",), ["found", (A1,)], ("Found", (A1,)), (b"found", (A1,)), ("found", [A1]), ("ask", (A1,))):
            self.check([A1], [], [], (0, 1, part), 1)

    def test_ask(self):
        bad = [A1, B1, D1]
        rest = (found(A1), ("ask", (A1, B1), found(B1), found(D1)))
        for names in ((), (B1,), (B1, A1), (A1, A1), (A1, B1, D1), (B2,), (A1, C1), [A1], (list(A1),), (("a", True),), None, A1,
                      (A1, ABSENT), (A1, 1), (OWN_LIST,), OWN_LIST):
            self.check(bad, [], [], (2, 3, ("ask", names, *rest)), 1)
        for part in (("ask", (A1,)), ("ask", (A1,), found(A1)), ("ask", (A1,), *rest, None), ["ask", (A1,), *rest], ("found", (A1,), *rest),
                     (1, (A1,), *rest)):
            self.check(bad, [], [], (2, 3, part), 1)
        # Two sides exchanged.
        self.check(bad, [], [], (2, 3, ("ask", (A1,), rest[1], rest[0])), 2)
        # An open set that has none, or all, of those that are left.
        self.check(bad, [[A1]], [], (1, 2, ("ask", (A1,), found(B1), found(D1))), 1)
        self.check(bad, [[A1]], [], (1, 2, ("ask", (A1, B1, D1), found(B1), found(D1))), 1)
        self.check(bad, [[A1]], [], (1, 2, ("ask", (A1, B1), found(B1), found(D1))), None)
        # A set against which a pair stands.
        self.check(bad, [], [(A1, D1)], (2, 3, ("ask", (A1,), found(A1), found(D1))), 1)
        self.check(bad, [], [(A1, D1)], (2, 3, ("ask", (D1,), found(D1), ("ask", (A1, D1), found(A1), found(B1)))), None)

    def test_the_bad_side_comes_first(self):
        bad = [A1, A2, B1, D1]
        tree = ("ask", (A1, B1), ("ask", (A1,), found(A1), found(B1)), ("ask", (D1,), found(D1), found(A2)))
        self.check(bad, [], [], (2, 4, tree), None)
        for way, step in (((), 1), ((2,), 2), ((2, 2), 3), ((2, 3), 4), ((3,), 5), ((3, 2), 6), ((3, 3), 7)):
            for part in (None, [], found(A3), ("ask", (), None, None), OWN_LIST):
                self.check(bad, [], [], (2, 4, with_part(tree, way, part)), step)
        both = with_part(with_part(tree, (3, 2), None), (2, 3), None)
        self.check(bad, [], [], (2, 4, both), 4)

    def test_anything(self):
        for thing in ANYTHING + EQUALS:
            self.check([A1, D1], [], [], (1, 2, thing), 1)
            self.check([A1, D1], [], [], (1, 2, ("ask", (A1,), thing, found(D1))), 2)
            self.check([A1, D1], [], [], (1, 2, ("ask", (A1,), found(A1), thing)), 3)
            self.check([A1, D1], [], [], (1, 2, (thing, (A1,), found(A1), found(D1))), 1)
            self.check([A1, D1], [], [], (1, 2, ("ask", (A1, thing), found(A1), found(D1))), 1)
            self.check([A1], [], [], (0, 1, ("found", thing)), 1)
            self.check([A1], [], [], (0, 1, ("found", (thing,))), 1)

    def test_a_deep_tree(self):
        tree = None
        for _ in range(5000):
            tree = ("ask", (A1,), found(A1), tree)
        self.check([A1, D1], [], [], (1, 2, tree), 3)
        self.check([A1, D1], [], [], (5000, 2 ** 5000, tree), 3)

    def test_patches_in_any_order(self):
        paper = hunt_paper(self.store, [A1, B1, A2, D1], [[D1]], [])
        for patches in (told(self.store)[::-1], sorted(told(self.store), key=repr)):
            self.assertIsNone(check_hunt(patches, [A1, B1, A2, D1], [[D1]], [], paper))

    def test_alone(self):
        with tempfile.TemporaryDirectory() as folder:
            os.mkdir(os.path.join(folder, "manyheads"))
            for name in ("__init__.py", "errors.py", "huntcheck.py"):
                shutil.copy(os.path.join(PACKAGE, name), os.path.join(folder, "manyheads", name))
            code = ("from manyheads.huntcheck import check_hunt\n"
                    "patches = [(('a', 1), [], []), (('b', 1), [('a', 1)], [])]\n"
                    "tree = ('ask', (('a', 1),), ('found', (('a', 1),)), ('found', (('b', 1),)))\n"
                    "print(check_hunt(patches, [('a', 1), ('b', 1)], [], [], (1, 2, tree)))\n")
            done = subprocess.run([sys.executable, "-c", code], cwd=folder, env={"PYTHONPATH": folder}, capture_output=True, text=True)
        self.assertEqual((done.stdout, done.stderr), ("None\n", ""))


class Changed(CheckCase):

    def changed(self, some, plain, paper):
        """A paper with one thing changed."""
        most, count, tree = paper
        rows = parts_in(tree)
        way = rows[next(some) % len(rows)]
        part, other = part_at(tree, way), part_at(tree, rows[next(some) % len(rows)])
        names = list(part[1])
        name = sorted(plain.knows)[next(some) % len(plain.knows)]
        sort = next(some) % 9
        if sort == 0:
            return (most + next(some) % 3 - 1, count, tree)
        if sort == 1:
            count += next(some) % 5 - 2
            return (least_power(count), count, tree)
        if sort == 2:
            return (most, count, with_part(tree, way, other))
        if sort == 3:
            names = tuple(sorted(set(names) ^ {name}))
        elif sort == 4:
            names = tuple(sorted(plain.lead(set(names) ^ {name})))
        elif sort == 5:
            names = tuple(names[::-1] if next(some) % 2 else names + names[-1:])
        elif sort == 6:
            names = (names, tuple(names[1:]), tuple([list(one) for one in names]))[next(some) % 3]
        elif sort == 7 and len(part) == 4:
            return (most, count, with_part(tree, way, (part[0], part[1], part[3], part[2])))
        elif sort == 8:
            under = ("ask", tuple(sorted(plain.lead([name]))), part, other)
            return (most, count, with_part(tree, way, under))
        return (most, count, with_part(tree, way, (part[0], names) + part[2:]))

    def test_webs(self):
        steps = {}
        for seed in range(40):
            self.store, bad, goods, pairs, plain = hunt_web(seed, 5 + seed % 6)
            paper = hunt_paper(self.store, bad, goods, pairs)
            self.check(bad, goods, pairs, paper, None)
            some = chances(seed)
            for _ in range(60):
                other = self.changed(some, plain, paper)
                step = wrong_step(plain, other)
                steps[step] = steps.get(step, 0) + 1
                self.check(bad, goods, pairs, other, step)
        for step in (None, 0, 1, 2, 3, 4, 5, 6):
            self.assertGreater(steps.get(step, 0), 10, steps)
