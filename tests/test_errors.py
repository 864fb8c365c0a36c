"""The error classes: what they stand under, and what they keep."""

import unittest

from crosshomes import errors

UNDER = {
    "NoHousehold": (LookupError, ("name",)),
    "NoHome": (LookupError, ("home",)),
    "Taken": (ValueError, ("name",)),
    "Clash": (ValueError, ("name",)),
    "BadBound": (ValueError, ("bound",)),
    "BadStay": (ValueError, ("name",)),
    "BadOrder": (ValueError, ()),
    "BadText": (ValueError, ()),
    "BadLine": (ValueError, ("number",)),
    "Stopped": (ValueError, ("number", "word", "value")),
}


class Errors(unittest.TestCase):
    def test_each_is_directly_under_its_class_alone(self):
        for word, (base, _) in UNDER.items():
            with self.subTest(word=word):
                self.assertEqual(getattr(errors, word).__bases__, (base,))
                self.assertEqual(getattr(errors, word).__module__, "crosshomes.errors")

    def test_there_are_no_others(self):
        found = [word for word, value in vars(errors).items() if isinstance(value, type)]
        self.assertEqual(sorted(found), sorted(UNDER))

    def test_each_keeps_what_it_is_made_with(self):
        for word, (_, names) in UNDER.items():
            for values in (("zoe", 3, ("a",)), (None, "", [1])):
                with self.subTest(word=word, values=values):
                    kept = dict(zip(names, values))
                    by_place = getattr(errors, word)(*kept.values())
                    by_name = getattr(errors, word)(**kept)
                    self.assertEqual(vars(by_place), kept)
                    self.assertEqual(vars(by_name), kept)

    def test_too_few_values(self):
        for word, (_, names) in UNDER.items():
            if names:
                with self.subTest(word=word):
                    self.assertRaises(TypeError, getattr(errors, word))


if __name__ == "__main__":
    unittest.main()
