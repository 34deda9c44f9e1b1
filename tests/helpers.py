"""What the tests share: things of any kind, and how a refusal is looked at."""

import unittest

from manyheads.patch import Patch

HEAD = ("", 0, 0)
FOOT = ("", 0, 1)

OWN_LIST = []
OWN_LIST.append(OWN_LIST)


def deep(many):
    """A list in a list, so many times."""
    thing = []
    for _ in range(many):
        thing = [thing]
    return thing


# None of these is a name, a line, a list of names, a patch, a head's name or a text of patches.
ANYTHING = [
    None, True, False, 0, 1, -7, 10 ** 40, "", " ", "Ab", "ninesigns", "a b", "\n", b"ann", b"",
    (), ((),), ([],), ({},), (None,), (None, None), (None, None, None), ("ann",), ("ann", "1"),
    ("ann", True), ("ann", False), ("ann", 0), ("ann", 1000), ("ann", -1), ("ann", None), ("ann", []),
    ("ann", 1, True), ("ann", 1, 0), ("ann", True, 1), ("ann", 1, []), ("ann", 1, 1, 1), ("ann", [1], 1),
    ("", 0), ("", False, 0), ("", 0, False), ("", 0, True), ("", 0, 2), ("", 1, 0), ("", 0, [0]), ([], 0, 0),
    ("head", 1), ("foot", 1), ("none", 1), ("Ann", 1), ("", 1), ("ninesigns", 1), (["ann"], 1), ({}, 1),
    (1, "ann"), ("ann", (1,)), (("ann", 1),), [None], [[]], [()], [("ann", 0)], [["ann", 1]], ["ann"],
    ["ann", 1], ["ann", 1, 1], [1, 2], [True], {}, {"ann": 1}, {("ann", 1): True}, set(), {1, 2},
    frozenset([1]), range(3), object(), len, int, OWN_LIST, (OWN_LIST, OWN_LIST), deep(3000),
]


def putting(name, knows=(), texts=("x",), above=HEAD, below=FOOT):
    """A patch with one put."""
    return Patch(name, list(knows), [("put", above, below, tuple(texts))])


class Case(unittest.TestCase):
    """A test that can look at refusals."""

    def refused(self, kind, fields, act, *things):
        """See that a call is refused by just this class with these fields."""
        try:
            act(*things)
        except ValueError as error:
            self.assertIs(error.__class__, kind, error)
            for field, value in fields.items():
                self.assertEqual(getattr(error, field), value)
            return error
        self.fail(f"{kind.__name__} {fields} was due")
        return None
