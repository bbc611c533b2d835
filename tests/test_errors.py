"""[3]: the refusals, how they stand under one another, and their fields."""

import unittest

from markworks import errors

PLAIN = ("BadRule", "BadName", "BadNumber", "Unlike", "BadPairs", "Never", "Nothing")
WITH_FIELD = {"BadRows": "at", "BadRest": "bits", "BadText": "at", "Unled": "name"}


def refusals():
    return [getattr(errors, name) for name in PLAIN + tuple(WITH_FIELD)]


class Standing(unittest.TestCase):
    def test_mark_error_is_a_value_error(self):
        self.assertEqual(errors.MarkError.__bases__, (ValueError,))

    def test_each_stands_straight_under_mark_error(self):
        for refusal in refusals():
            with self.subTest(refusal=refusal.__name__):
                self.assertEqual(refusal.__bases__, (errors.MarkError,))
                self.assertTrue(issubclass(refusal, ValueError))

    def test_none_stands_under_another(self):
        for one in refusals():
            for other in refusals():
                with self.subTest(one=one.__name__, other=other.__name__):
                    self.assertEqual(issubclass(one, other), one is other)

    def test_the_file_has_no_other_refusals(self):
        found = [name for name, thing in vars(errors).items() if isinstance(thing, type)]
        self.assertEqual(sorted(found), sorted(("MarkError",) + PLAIN + tuple(WITH_FIELD)))


class Fields(unittest.TestCase):
    def test_each_field_is_told(self):
        for name, field in WITH_FIELD.items():
            for thing in (0, 7, None, "GREEN"):
                with self.subTest(name=name, thing=thing):
                    self.assertEqual(getattr(getattr(errors, name)(thing), field), thing)

    def test_those_without_fields_take_words(self):
        for name in PLAIN:
            with self.subTest(name=name):
                self.assertEqual(str(getattr(errors, name)("some words")), "some words")
                self.assertEqual(vars(getattr(errors, name)("some words")), {})

    def test_each_is_caught_as_mark_error(self):
        for refusal in refusals():
            with self.subTest(refusal=refusal.__name__):
                with self.assertRaises(errors.MarkError) as caught:
                    raise refusal("A")
                self.assertIs(type(caught.exception), refusal)


if __name__ == "__main__":
    unittest.main()
