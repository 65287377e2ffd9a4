import unittest

from helpers import ODD_VALUES, HeadsCase
from twoheads import errors

BASES = {
    "HeadsError": ValueError,
    "BadInput": errors.HeadsError,
    "Fall": errors.HeadsError,
    "Refused": errors.HeadsError,
}
FIELDS = {
    "BadItem": (errors.BadInput, ("part",)),
    "BadPlace": (errors.BadInput, ("at",)),
    "Disordered": (errors.BadInput, ("at",)),
    "BadTest": (errors.BadInput, ("at", "word")),
    "BadWalk": (errors.BadInput, ("reason", "line")),
    "BadText": (errors.BadInput, ("row", "word")),
    "BadName": (errors.BadInput, ("name",)),
    "Behind": (errors.Fall, ("line", "side")),
    "Unlike": (errors.Fall, ("line",)),
    "Endless": (errors.Fall, ("line",)),
    "Unfit": (errors.Refused, ("claim",)),
    "TooMany": (errors.Refused, ("most",)),
    "TooLarge": (errors.Refused, ("most",)),
    "NotNow": (errors.Refused, ("what",)),
}


class ErrorTests(HeadsCase):
    def test_bases(self):
        for name, base in BASES.items():
            self.assertEqual(getattr(errors, name).__bases__, (base,))
        for name, (base, _) in FIELDS.items():
            self.assertEqual(getattr(errors, name).__bases__, (base,))

    def test_no_other_classes(self):
        classes = {name for name, value in vars(errors).items() if isinstance(value, type)}
        self.assertEqual(classes, set(BASES) | set(FIELDS))

    def test_fields_as_passed(self):
        for name, (_, fields) in FIELDS.items():
            made = getattr(errors, name)
            for k, value in enumerate(ODD_VALUES):
                passed = [value, ODD_VALUES[k - 1]][:len(fields)]
                error = made(*passed)
                for field, worth in zip(fields, passed):
                    self.assertIs(getattr(error, field), worth)
                error = made(**dict(zip(fields, passed)))
                for field, worth in zip(fields, passed):
                    self.assertIs(getattr(error, field), worth)

    def test_number_of_fields(self):
        for name, (_, fields) in FIELDS.items():
            made = getattr(errors, name)
            for many in range(4):
                if many != len(fields):
                    with self.assertRaises(TypeError):
                        made(*range(many))

    def test_raised_and_caught_by_bases(self):
        for name, (base, fields) in FIELDS.items():
            for kind in (base, errors.HeadsError, ValueError):
                with self.assertRaises(kind):
                    raise getattr(errors, name)(*fields)


if __name__ == "__main__":
    unittest.main()
