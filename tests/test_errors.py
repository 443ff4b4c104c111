import unittest

from onlyasked import errors
from samples import any_values

NAMES = (
    "BadProgram Doubled Unnamed RingOfRules TooLarge NoWorld BadWorld NoName BadFact BadFacts Unlike Impossible Settled "
    "Open BadAnswers OtherSources BadTable Clash BadWorlds NoSubject NoSource TooSoon Begun NoCase NoPage NothingToUndo "
    "BadText OtherTime BadLine"
).split()


class ErrorsTest(unittest.TestCase):
    def test_ask_error_derives_directly_from_value_error(self):
        self.assertEqual(errors.AskError.__bases__, (ValueError,))

    def test_each_error_derives_directly_from_ask_error(self):
        for name in NAMES:
            with self.subTest(name):
                self.assertEqual(getattr(errors, name).__bases__, (errors.AskError,))
                self.assertEqual(getattr(errors, name).__name__, name)
                self.assertEqual(getattr(errors, name).__module__, "onlyasked.errors")

    def test_there_are_no_other_errors(self):
        found = [name for name, value in vars(errors).items() if isinstance(value, type)]
        self.assertEqual(sorted(found), sorted(NAMES + ["AskError"]))

    def test_each_error_keeps_whatever_value_it_is_made_with(self):
        for name in NAMES + ["AskError"]:
            for value in any_values():
                with self.subTest(name):
                    self.assertIs(getattr(errors, name)(value).value, value)

    def test_each_error_takes_just_one_value(self):
        for name in NAMES + ["AskError"]:
            with self.subTest(name):
                with self.assertRaises(TypeError):
                    getattr(errors, name)()
                with self.assertRaises(TypeError):
                    getattr(errors, name)(1, 2)

    def test_errors_are_caught_by_all_their_names(self):
        for base in (errors.AskError, ValueError, errors.BadLine):
            with self.assertRaises(base):
                raise errors.BadLine("no line")


if __name__ == "__main__":
    unittest.main()
