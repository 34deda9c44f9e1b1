"""What the tests share: things of any kind, and how a refusal is looked at."""

import unittest

from manyheads.patch import Patch
from manyheads.store import Store

HEAD = ("", 0, 0)
FOOT = ("", 0, 1)

OWN_LIST = []
OWN_LIST.append(OWN_LIST)


def deep(many):
    """A list in a list, so many times."""
    thing = []
    for _ in range(many):
        thing = [thing]
    return thing


# None of these is a name, a line, a list of names, a patch, a head's name or a text of patches.
ANYTHING = [
    None, True, False, 0, 1, -7, 10 ** 40, "", " ", "Ab", "ninesigns", "a b", "\n", b"ann", b"",
    (), ((),), ([],), ({},), (None,), (None, None), (None, None, None), ("ann",), ("ann", "1"),
    ("ann", True), ("ann", False), ("ann", 0), ("ann", 1000), ("ann", -1), ("ann", None), ("ann", []),
    ("ann", 1, True), ("ann", 1, 0), ("ann", True, 1), ("ann", 1, []), ("ann", 1, 1, 1), ("ann", [1], 1),
    ("", 0), ("", False, 0), ("", 0, False), ("", 0, True), ("", 0, 2), ("", 1, 0), ("", 0, [0]), ([], 0, 0),
    ("head", 1), ("foot", 1), ("none", 1), ("Ann", 1), ("", 1), ("ninesigns", 1), (["ann"], 1), ({}, 1),
    (1, "ann"), ("ann", (1,)), (("ann", 1),), [None], [[]], [()], [("ann", 0)], [["ann", 1]], ["ann"],
    ["ann", 1], ["ann", 1, 1], [1, 2], [True], {}, {"ann": 1}, {("ann", 1): True}, set(), {1, 2},
    frozenset([1]), range(3), object(), len, int, OWN_LIST, (OWN_LIST, OWN_LIST), deep(3000),
]

# In Python these are equal to names and lines, but True and False are no whole numbers.
EQUALS = [("a", True), ("a", True, 1), ("a", 1, True), ("", False, 0), ("", 0, False), ("", False, 1), ("", 0, True)]


def putting(name, knows=(), texts=("x",), above=HEAD, below=FOOT):
    """A patch with one put."""
    return Patch(name, list(knows), [("put", above, below, tuple(texts))])


class Case(unittest.TestCase):
    """A test that can look at refusals."""

    def refused(self, kind, fields, act, *things):
        """See that a call is refused by just this class with these fields."""
        try:
            act(*things)
        except ValueError as error:
            self.assertIs(error.__class__, kind, error)
            for field, value in fields.items():
                self.assertEqual(getattr(error, field), value)
            return error
        self.fail(f"{kind.__name__} {fields} was due")
        return None


def put_all(patches):
    """A store that took these patches in."""
    store = Store()
    for patch in patches:
        store.put_patch(patch)
    return store


def told_of(store):
    """All that a store tells."""
    return ([store.patch_of(name).told() for name in store.names()], [store.knows_all(name) for name in store.names()],
            [(head, store.head_set(head)) for head in store.heads()])


def ladder(levels):
    """A store of two patches on each level, each of which knows both of the level below: ways without number."""
    knows, patches = [], []
    for level in range(1, levels + 1):
        patches += [putting((hand, level), knows) for hand in ("a", "b")]
        knows = [("a", level), ("b", level)]
    return put_all(patches)


def chances(seed):
    """Numbers without end that look like chance, the same ones each time."""
    while True:
        seed = (seed * 1103515245 + 12345) & 0x7FFFFFFF
        yield seed >> 8


def web(seed, many):
    """A dict from names to what they know directly, each behind what it knows."""
    some = chances(seed + 1)
    made = {}
    while len(made) < many:
        name = ("abcd"[next(some) % 4], next(some) % 30 + 1)
        if name not in made:
            made[name] = sorted({list(made)[next(some) % len(made)] for _ in range(next(some) % 4)} if made else [])
    return made


def all_known(made, names):
    """All that some names of a web know altogether, told by the promise's own words."""
    known = set()
    for name in names:
        known |= set(made[name]) | all_known(made, made[name])
    return known
