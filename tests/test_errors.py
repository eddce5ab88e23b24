"""The refusals of the interface: redo/errors.py."""

import unittest

from redo import errors

KEEPING = {"BadWord": "at", "BadLine": "at", "NotMade": "name", "NoLine": "name", "NoPaper": "name"}
TEXTED = ("NoName", "NoValue", "NoRecipe", "NoThing", "TooMany", "NotReady", "Dishonest", "BadPaper", "NoRow")


def refusals():
    return {
        key: thing for key, thing in vars(errors).items()
        if isinstance(thing, type) and issubclass(thing, errors.RedoError) and thing is not errors.RedoError
    }


class Errors(unittest.TestCase):
    def test_the_base(self):
        self.assertEqual(errors.RedoError.__bases__, (ValueError,))

    def test_all_of_the_list_and_no_others(self):
        self.assertEqual(sorted(refusals()), sorted(list(KEEPING) + list(TEXTED)))

    def test_each_stands_straight_under_the_base(self):
        for key in list(KEEPING) + list(TEXTED):
            with self.subTest(key):
                self.assertEqual(getattr(errors, key).__bases__, (errors.RedoError,))

    def test_fields_keep_what_they_are_made_of(self):
        for key, field in KEEPING.items():
            for kept in ((0, 7, 60000) if field == "at" else ("a", "bread", "of any text", "")):
                with self.subTest(key=key, kept=kept):
                    error = getattr(errors, key)(kept)
                    self.assertEqual(getattr(error, field), kept)
                    self.assertIs(type(getattr(error, field)), type(kept))

    def test_fields_are_each_error_s_own(self):
        one, other = errors.BadWord(1), errors.BadWord(2)
        self.assertEqual((one.at, other.at), (1, 2))

    def test_those_made_of_a_text(self):
        for key in TEXTED:
            with self.subTest(key):
                self.assertEqual(str(getattr(errors, key)("why so")), "why so")

    def test_each_is_taken_by_itself_by_the_base_and_by_no_other(self):
        made = [getattr(errors, key)(3 if field == "at" else "ab") for key, field in KEEPING.items()]
        made += [getattr(errors, key)("text") for key in TEXTED]
        for error in made:
            with self.subTest(type(error).__name__):
                with self.assertRaises(errors.RedoError) as caught:
                    raise error
                self.assertIs(caught.exception, error)
                fitting = [key for key, thing in refusals().items() if isinstance(error, thing)]
                self.assertEqual(fitting, [type(error).__name__])


if __name__ == "__main__":
    unittest.main()
