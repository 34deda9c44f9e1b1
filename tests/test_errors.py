"""The refusals: their classes and fields."""

import unittest

from manyheads import errors


class Errors(unittest.TestCase):

    def test_fields(self):
        names = [("ann", 1), ("bob", 2)]
        made = [
            (errors.BadRow, (3, 4), {"row": 3, "word": 4}),
            (errors.BadPatch, (5,), {"deed": 5}),
            (errors.NotClosed, (names,), {"lacking": names}),
            (errors.Unlike, (("ann", 1),), {"name": ("ann", 1)}),
            (errors.Hindered, (names,), {"knowing": names}),
            (errors.BadPaper, (6,), {"step": 6}),
            (errors.BadPack, (7,), {"row": 7}),
            (errors.BadHunt, ("why",), {}),
            (errors.BadMessage, ("why",), {}),
            (errors.OutOfPlace, ("why",), {}),
        ]
        for kind, things, fields in made:
            error = kind(*things)
            self.assertEqual(kind.__bases__, (errors.HeadsError,))
            for field, value in fields.items():
                self.assertEqual(getattr(error, field), value)
            self.assertIsInstance(str(error), str)

    def test_any_refusal_is_a_value_error(self):
        self.assertEqual(errors.HeadsError.__bases__, (ValueError,))
        self.assertEqual(str(errors.OutOfPlace("why")), "why")

    def test_lists_handed_in_are_not_kept(self):
        names = [("ann", 1)]
        lacking = errors.NotClosed(names)
        knowing = errors.Hindered(names)
        names.append(("bob", 1))
        self.assertEqual(lacking.lacking, [("ann", 1)])
        self.assertEqual(knowing.knowing, [("ann", 1)])
