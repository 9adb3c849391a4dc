"""The error classes of the interface."""

import unittest

from fewrefresh import errors

NAMES = ("BadNetwork", "BadNumber", "BadWorld", "BadPlan", "BadQuery", "NotSufficient", "TooLarge", "BadRecords",
         "BadSituation", "BadChoice", "BadValues", "BadText", "BadCommand", "BadName")


class Errors(unittest.TestCase):
    def test_base(self):
        self.assertEqual(errors.RefreshError.__bases__, (ValueError,))

    def test_direct_subclasses(self):
        found = [kind.__name__ for kind in errors.RefreshError.__subclasses__()]
        self.assertEqual(sorted(found), sorted(NAMES))
        for name in NAMES:
            with self.subTest(name=name):
                self.assertEqual(getattr(errors, name).__bases__, (errors.RefreshError,))
                self.assertEqual(getattr(errors, name).__module__, "fewrefresh.errors")

    def test_raised_and_caught(self):
        for name in NAMES:
            with self.subTest(name=name):
                with self.assertRaises(errors.RefreshError):
                    raise getattr(errors, name)("a")

    def test_part(self):
        for part in ("sources", "w", None, True):
            self.assertIs(errors.BadNetwork(part).part, part)
            self.assertIs(errors.BadNetwork(part=part).part, part)
            self.assertEqual(vars(errors.BadNetwork(part)), {"part": part})

    def test_row(self):
        for row in (0, 1, 7):
            self.assertEqual(errors.BadText(row).row, row)
            self.assertEqual(errors.BadText(row=row).row, row)
            self.assertEqual(vars(errors.BadText(row)), {"row": row})

    def test_no_other_attributes(self):
        for name in NAMES:
            if name not in ("BadNetwork", "BadText"):
                self.assertEqual(vars(getattr(errors, name)("a")), {})
