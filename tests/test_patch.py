"""[2], [3], [4]: patches, and what they put, bind and mark."""

from manyheads.errors import BadPatch
from manyheads.patch import Patch, bindings_of, lines_named, lines_put, marks_in
from helpers import ANYTHING, EQUALS, Case, FOOT, HEAD, putting

ANN = ("ann", 1)
OTHER = ("bob", 1, 1)
FURTHER = ("bob", 1, 2)
PUT = ("put", HEAD, FOOT, ("one", "two"))

GOOD_DEEDS = [
    PUT,
    ("put", OTHER, FURTHER, ("",)),
    ("put", HEAD, OTHER, ("a" * 40,)),
    ("put", OTHER, FOOT, ("+", " ", "  a  ", "~!")),
    ("put", HEAD, FOOT, ("x",) * 200),
    ("cut", OTHER),
    ("keep", ("bob", 999, 10 ** 30)),
    ("order", OTHER, FURTHER),
    ("order", FURTHER, OTHER),
    ("order", OTHER, ("ann", 2, 1)),
]

BAD_DEEDS = ANYTHING + EQUALS + [
    ("put", HEAD, FOOT), ("put", HEAD, FOOT, ("x",), 1), ("put",), ["put", HEAD, FOOT, ("x",)],
    ("Put", HEAD, FOOT, ("x",)), ("puts", HEAD, FOOT, ("x",)), (b"put", HEAD, FOOT, ("x",)),
    ("put", HEAD, FOOT, ()), ("put", HEAD, FOOT, ["x"]), ("put", HEAD, FOOT, "x"), ("put", HEAD, FOOT, ("x",) * 201),
    ("put", HEAD, FOOT, ("a" * 41,)), ("put", HEAD, FOOT, ("ok", "a\nb")), ("put", HEAD, FOOT, ("\n",)),
    ("put", HEAD, FOOT, ("ok", 1)), ("put", HEAD, FOOT, (None,)), ("put", HEAD, FOOT, (b"x",)),
    ("put", HEAD, FOOT, (["x"],)), ("put", HEAD, FOOT, None),
    ("put", FOOT, OTHER, ("x",)), ("put", OTHER, HEAD, ("x",)), ("put", FOOT, HEAD, ("x",)),
    ("put", HEAD, HEAD, ("x",)), ("put", FOOT, FOOT, ("x",)), ("put", OTHER, OTHER, ("x",)),
    ("put", list(HEAD), FOOT, ("x",)), ("put", HEAD, list(FOOT), ("x",)), ("put", "head", "foot", ("x",)),
    ("put", ("", False, 0), FOOT, ("x",)), ("put", ("", 0, False), FOOT, ("x",)), ("put", HEAD, ("", 0, True), ("x",)),
    ("put", ("bob", 1, 0), FOOT, ("x",)), ("put", HEAD, ("bob", 1, True), ("x",)),
    ("put", ("bob", 1000, 1), FOOT, ("x",)), ("put", HEAD, ("head", 1, 1), ("x",)),
    ("put", ("ann", 1, 99), FOOT, ("x",)), ("put", HEAD, ("ann", 1, 99), ("x",)),
    ("cut",), ("cut", OTHER, FURTHER), ("cut", HEAD), ("cut", FOOT), ["cut", OTHER], ("cut", list(OTHER)),
    ("cut", ("bob", 1)), ("cut", ("ann", 1, 99)), ("cut", ("bob", 1, 0)), ("cut", ("bob", True, 1)), ("cuts", OTHER),
    ("keep",), ("keep", OTHER, FURTHER), ("keep", HEAD), ("keep", FOOT), ("keep", None), ("keep", ("ann", 1, 99)),
    ("order", OTHER), ("order", OTHER, OTHER), ("order", OTHER, FURTHER, OTHER), ("order", HEAD, OTHER),
    ("order", OTHER, FOOT), ("order", FOOT, HEAD), ("order", HEAD, FOOT), ("order", OTHER, ("ann", 1, 99)),
    ("order", ("ann", 1, 99), OTHER), ("order", OTHER, list(FURTHER)), ("order", (OTHER, FURTHER)),
    ("turn", OTHER), (OTHER, "cut"), ("", OTHER), (None, OTHER), ([], OTHER), ({}, OTHER, FURTHER), ("knows", OTHER),
]


class Making(Case):

    def test_told(self):
        knows = [("ann", 2), ("bob", 1), ("bob", 12)]
        told = Patch(ANN, knows, GOOD_DEEDS).told()
        self.assertEqual(told, (ANN, knows, GOOD_DEEDS))
        self.assertIsInstance(told, tuple)
        self.assertEqual(Patch(ANN, [], []).told(), (ANN, [], []))

    def test_each_good_deed_alone(self):
        for deed in GOOD_DEEDS:
            self.assertEqual(Patch(ANN, [], [deed]).told(), (ANN, [], [deed]))

    def test_each_bad_deed_at_each_place(self):
        for deed in BAD_DEEDS:
            self.refused(BadPatch, {"deed": 1}, Patch, ANN, [], [deed])
            for at in range(4):
                deeds = GOOD_DEEDS[:3]
                deeds.insert(at, deed)
                self.refused(BadPatch, {"deed": at + 1}, Patch, ANN, [("bob", 1)], deeds)

    def test_the_first_bad_deed_is_told(self):
        deeds = [PUT, ("cut", HEAD), PUT, ("order", OTHER, OTHER), None]
        self.refused(BadPatch, {"deed": 2}, Patch, ANN, [], deeds)
        self.refused(BadPatch, {"deed": 3}, Patch, ANN, [], [PUT, PUT] + deeds[3:])
        # What is no deed by itself, and what is none behind those ahead of it, in either order.
        for wrong in (("cut", ("ann", 1, 3)), ("put", FOOT, OTHER, ("x",)), ("order", OTHER, OTHER), ("put", OTHER, HEAD, ("x",))):
            for other in (None, ("cut", HEAD), ("put", HEAD, FOOT, ())):
                self.refused(BadPatch, {"deed": 2}, Patch, ANN, [], [PUT, wrong, other, PUT])
                self.refused(BadPatch, {"deed": 2}, Patch, ANN, [], [PUT, other, wrong, PUT])
                self.refused(BadPatch, {"deed": 4}, Patch, ANN, [], [PUT, PUT, PUT, other])
                self.refused(BadPatch, {"deed": 0}, Patch, ANN, [ANN], [wrong, other])

    def test_names(self):
        for name in (("a", 1), ("abcdefgh", 999)):
            self.assertEqual(Patch(name, [], []).told()[0], name)
        for name in ANYTHING + EQUALS + [["ann", 1], "ann.1", "ann"]:
            self.refused(BadPatch, {"deed": 0}, Patch, name, [], [])

    def test_known(self):
        for knows in ([], [("ann", 2)], [("abe", 9), ("ann", 2), ("ann", 10), ("bob", 1)]):
            self.assertEqual(Patch(ANN, knows, []).told()[1], knows)
        bad = [
            [ANN], [("abe", 1), ANN, ("bob", 1)], [("bob", 2), ("bob", 1)], [("bob", 1), ("bob", 1)],
            [("bob", 10), ("bob", 9)], [("bob", 1), ("abe", 1)], (("bob", 1),), (), {("bob", 1): True},
            [("bob", 1), None], [("bob", 1), ["bob", 2]], [("bob", True)], [("bob", 0)], [("bob", 1000)], "", None,
            [("bob", 1), ("bob", 2), ("bob", 2)], [("bob", 1, 1)], [HEAD],
        ]
        for knows in bad + [thing for thing in ANYTHING if thing != []]:
            self.refused(BadPatch, {"deed": 0}, Patch, ANN, knows, [])

    def test_lists_of_deeds(self):
        many = [("cut", OTHER)] * 400
        self.assertEqual(Patch(ANN, [], many).told()[2], many)
        bad = [many + [("cut", OTHER)], tuple(many), (), (PUT,), {}, None, "", {PUT: True}, 1, PUT]
        for deeds in bad:
            self.refused(BadPatch, {"deed": 0}, Patch, ANN, [], deeds)
        self.refused(BadPatch, {"deed": 400}, Patch, ANN, [], many[:399] + [("cut", HEAD)])

    def test_zero_is_ahead_of_any_deed(self):
        bad = [("cut", HEAD)]
        self.refused(BadPatch, {"deed": 0}, Patch, ("ann", 0), [], bad)
        self.refused(BadPatch, {"deed": 0}, Patch, ANN, [ANN], bad)
        self.refused(BadPatch, {"deed": 0}, Patch, ANN, [], bad * 401)
        self.refused(BadPatch, {"deed": 0}, Patch, ANN, [("b", 2), ("b", 1)], bad)

    def test_own_lines(self):
        def own(place):
            return ("ann", 1, place)

        good = [
            [PUT, ("cut", own(1))],
            [PUT, ("keep", own(2)), ("cut", own(2))],
            [PUT, ("order", own(2), own(1))],
            [PUT, ("put", own(1), own(2), ("x",)), ("cut", own(3))],
            [PUT, ("cut", OTHER), ("put", own(2), FOOT, ("x", "y")), ("order", own(4), own(1))],
        ]
        for deeds in good:
            self.assertEqual(Patch(ANN, [], deeds).told()[2], deeds)
        bad = [
            ([("cut", own(1)), PUT], 1),
            ([("put", own(1), FOOT, ("x",))], 1),
            ([("put", HEAD, own(1), ("x",))], 1),
            ([PUT, ("cut", own(3))], 2),
            ([PUT, ("put", own(3), FOOT, ("x",))], 2),
            ([PUT, ("put", own(2), own(3), ("x",))], 2),
            ([PUT, ("order", own(1), own(3)), PUT], 2),
            ([PUT, ("put", own(2), FOOT, ("x",)), ("keep", own(4))], 3),
        ]
        for deeds, deed in bad:
            self.refused(BadPatch, {"deed": deed}, Patch, ANN, [], deeds)

    def test_of_anything(self):
        for thing in ANYTHING:
            self.refused(BadPatch, {"deed": 0}, Patch, thing, thing, thing)
            if thing != []:
                self.refused(BadPatch, {"deed": 0}, Patch, ANN, thing, thing)
            self.refused(BadPatch, {"deed": 1}, Patch, ANN, [], [thing])

    def test_what_is_handed_in_and_told_is_not_kept(self):
        knows = [("bob", 1)]
        deeds = [PUT, ("cut", OTHER)]
        patch = Patch(ANN, knows, deeds)
        knows.append(("cid", 1))
        deeds.clear()
        expected = (ANN, [("bob", 1)], [PUT, ("cut", OTHER)])
        self.assertEqual(patch.told(), expected)
        self.assertEqual(knows, [("bob", 1), ("cid", 1)])
        for _ in range(2):
            told = patch.told()
            self.assertEqual(told, expected)
            told[1].clear()
            told[2].append(PUT)
        self.assertEqual(len(lines_put(patch)), 2)


class Telling(Case):

    def setUp(self):
        self.patch = Patch(ANN, [("bob", 1)], [
            ("cut", FURTHER),
            ("put", HEAD, OTHER, ("a", "b")),
            ("order", FURTHER, OTHER),
            ("keep", OTHER),
            ("put", ("ann", 1, 2), FOOT, ("c",)),
            ("cut", ("ann", 1, 1)),
            ("keep", FURTHER),
            ("cut", OTHER),
            ("put", HEAD, FOOT, ("a", "", "a")),
        ])

    def test_lines_put(self):
        self.assertEqual(lines_put(self.patch), [
            (("ann", 1, 1), "a"), (("ann", 1, 2), "b"), (("ann", 1, 3), "c"),
            (("ann", 1, 4), "a"), (("ann", 1, 5), ""), (("ann", 1, 6), "a"),
        ])
        self.assertEqual(lines_put(Patch(ANN, [], [("cut", OTHER)])), [])
        self.assertEqual(lines_put(Patch(ANN, [], [])), [])

    def test_bindings(self):
        def own(place):
            return ("ann", 1, place)

        self.assertEqual(bindings_of(self.patch), [
            [],
            [(HEAD, own(1)), (own(1), own(2)), (own(2), OTHER)],
            [(FURTHER, OTHER)],
            [],
            [(own(2), own(3)), (own(3), FOOT)],
            [],
            [],
            [],
            [(HEAD, own(4)), (own(4), own(5)), (own(5), own(6)), (own(6), FOOT)],
        ])
        self.assertEqual(bindings_of(Patch(ANN, [], [])), [])

    def test_marks(self):
        self.assertEqual(marks_in(self.patch), [
            (("ann", 1, 1), "cut"), (("ann", 1, 2), "keep"), (("ann", 1, 3), "keep"),
            (("ann", 1, 4), "keep"), (("ann", 1, 5), "keep"), (("ann", 1, 6), "keep"),
            (OTHER, "cut"), (FURTHER, "keep"),
        ])
        again = Patch(ANN, [], [PUT, ("cut", ("ann", 1, 1)), ("keep", ("ann", 1, 1)), ("cut", ("ann", 1, 2))])
        self.assertEqual(marks_in(again), [(("ann", 1, 1), "keep"), (("ann", 1, 2), "cut")])
        self.assertEqual(marks_in(Patch(ANN, [], [("order", OTHER, FURTHER)])), [])

    def test_marks_rise_by_number_and_place(self):
        lines = [("b", 10, 2), ("b", 9, 10), ("b", 9, 9), ("a", 11, 1), ("b", 10, 1)]
        marks = marks_in(Patch(ANN, [], [("cut", line) for line in lines]))
        self.assertEqual(marks, [(line, "cut") for line in sorted(lines)])

    def test_lines_named(self):
        self.assertEqual(lines_named(PUT), [])
        self.assertEqual(lines_named(("put", FURTHER, OTHER, ("x",))), [FURTHER, OTHER])
        self.assertEqual(lines_named(("put", HEAD, OTHER, ("x",))), [OTHER])
        self.assertEqual(lines_named(("put", OTHER, FOOT, ("x",))), [OTHER])
        self.assertEqual(lines_named(("cut", OTHER)), [OTHER])
        self.assertEqual(lines_named(("keep", FURTHER)), [FURTHER])
        self.assertEqual(lines_named(("order", FURTHER, OTHER)), [FURTHER, OTHER])

    def test_what_is_told_is_the_askers_own(self):
        for ask in (lines_put, bindings_of, marks_in):
            first = ask(self.patch)
            kept = [list(row) if isinstance(row, list) else row for row in first]
            for row in first:
                if isinstance(row, list):
                    row.append("more")
            first.clear()
            self.assertEqual(ask(self.patch), kept)
        named = lines_named(("order", FURTHER, OTHER))
        named.clear()
        self.assertEqual(lines_named(("order", FURTHER, OTHER)), [FURTHER, OTHER])

    def test_many_lines(self):
        patch = Patch(ANN, [], [("put", HEAD, FOOT, ("x",) * 200)] * 400)
        lines = lines_put(patch)
        self.assertEqual(len(lines), 80000)
        self.assertEqual(lines[-1], (("ann", 1, 80000), "x"))
        self.assertEqual(bindings_of(patch)[-1][-1], (("ann", 1, 80000), FOOT))
        self.assertEqual(len(marks_in(patch)), 80000)

    def test_putting(self):
        self.assertEqual(lines_put(putting(ANN, texts=("p", "q"))), [(("ann", 1, 1), "p"), (("ann", 1, 2), "q")])
