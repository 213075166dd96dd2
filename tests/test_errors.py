"""[2], [24]: the error classes."""

import unittest

from likecuts import errors


class Errors(unittest.TestCase):
    def test_directly_under_the_class_named(self):
        told = {"NoPlace": LookupError, "BadLine": ValueError, "CanNot": ValueError, "TooMuch": ValueError,
                "Unfit": ValueError, "NoRoom": ValueError, "Loose": ValueError, "Afloat": ValueError}
        for name, base in told.items():
            self.assertEqual(getattr(errors, name).__bases__, (base,), name)
            self.assertEqual(getattr(errors, name).__module__, "likecuts.errors", name)

    def test_values_by_place_and_by_name(self):
        told = (("NoPlace", "place", ("hard", 1)), ("BadLine", "line", 3), ("NoRoom", "ring", (("hard", 0),)),
                ("Loose", "lot", (1,)), ("Afloat", "lot", (1, 2)))
        for name, attribute, value in told:
            own = getattr(errors, name)
            for error in (own(value), own(**{attribute: value})):
                self.assertEqual(getattr(error, attribute), value, name)
                self.assertEqual(vars(error), {attribute: value}, name)
            with self.assertRaises(TypeError):
                own()

    def test_no_values(self):
        for name in ("CanNot", "TooMuch", "Unfit"):
            own = getattr(errors, name)
            self.assertEqual(vars(own()), {}, name)
            with self.assertRaises(TypeError):
                own(1)


if __name__ == "__main__":
    unittest.main()
