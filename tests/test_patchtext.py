"""[5]: writing patches as text."""

from manyheads.patch import Patch
from manyheads.patchtext import patch_rows, patches_text
from helpers import Case, FOOT, HEAD


class Writing(Case):

    def setUp(self):
        self.patch = Patch(("ann", 12), [("ann", 2), ("bob", 999)], [
            ("put", HEAD, FOOT, ("first", "", " a  b ", "+more", "~!\"#$&'()*,-./:;<=>?@[]^_`{|}")),
            ("put", ("bob", 999, 3), ("ann", 12, 1), ("cut head",)),
            ("cut", ("bob", 999, 3)),
            ("keep", ("ann", 12, 2)),
            ("order", ("ann", 2, 17), ("bob", 999, 999999)),
        ])
        self.rows = [
            "patch ann 12",
            "knows ann.2 bob.999",
            "put head foot", "+first", "+", "+ a  b ", "++more", "+~!\"#$&'()*,-./:;<=>?@[]^_`{|}",
            "put bob.999.3 ann.12.1", "+cut head",
            "cut bob.999.3",
            "keep ann.12.2",
            "order ann.2.17 bob.999.999999",
        ]

    def test_rows(self):
        self.assertEqual(patch_rows(self.patch), self.rows)

    def test_rows_without_deeds(self):
        self.assertEqual(patch_rows(Patch(("a", 1), [], [])), ["patch a 1", "knows none"])
        self.assertEqual(patch_rows(Patch(("a", 1), [("b", 1)], [])), ["patch a 1", "knows b.1"])

    def test_text(self):
        short = Patch(("bob", 1), [], [("cut", ("ann", 1, 1))])
        self.assertEqual(patches_text([]), "")
        self.assertEqual(patches_text([short]), "patch bob 1\nknows none\ncut ann.1.1")
        self.assertEqual(patches_text([short, self.patch, short]),
                         "\n".join(patch_rows(short) + self.rows + patch_rows(short)))

    def test_empty_texts_at_the_end(self):
        patch = Patch(("a", 1), [], [("put", HEAD, FOOT, ("", ""))])
        self.assertEqual(patches_text([patch]), "patch a 1\nknows none\nput head foot\n+\n+")

    def test_what_is_told_is_the_askers_own(self):
        rows = patch_rows(self.patch)
        rows.clear()
        patches = [self.patch]
        text = patches_text(patches)
        self.assertEqual(patches, [self.patch])
        self.assertEqual(patch_rows(self.patch), self.rows)
        self.assertEqual(patches_text([self.patch]), text)
