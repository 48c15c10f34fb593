"""Point 16: the errors."""

import unittest

from sourceback import errors
from helping import ANY

ARGUMENTS = {
    "BadFiles": ("value",),
    "SourceError": ("word", "file", "index"),
    "NoFile": ("value",),
    "NoList": ("file", "name"),
    "NoPlace": ("value",),
    "NoSpot": ("value",),
    "NoThing": ("value",),
    "BadEdit": ("value",),
    "StepError": ("index", "word"),
    "BadPlan": ("value",),
    "TooLarge": ("word",),
    "Refused": ("word", "paper"),
    "Clash": ("one", "other"),
    "NoHistory": ("value",),
    "Unrelated": (),
    "NotMergeable": ("number",),
    "NothingToUndo": (),
    "NothingToRedo": (),
    "NoMark": ("value",),
    "NoState": ("value",),
    "BadText": ("value",),
    "BadLine": ("line",),
    "NotOpen": (),
}


class Errors(unittest.TestCase):
    def test_base(self):
        self.assertEqual(errors.BackError.__bases__, (ValueError,))

    def test_each_is_directly_below_the_base_and_there_are_no_others(self):
        found = {name for name, value in vars(errors).items() if isinstance(value, type)}
        self.assertEqual(found, set(ARGUMENTS) | {"BackError"})
        for name in ARGUMENTS:
            error = getattr(errors, name)
            self.assertEqual(error.__bases__, (errors.BackError,), name)
            self.assertEqual(error.__module__, "sourceback.errors")

    def test_arguments_are_kept_by_position_and_by_name(self):
        for name, words in ARGUMENTS.items():
            error = getattr(errors, name)
            for number, value in enumerate(ANY):
                values = [value, (number,), "third"][:len(words)]
                for made in (error(*values), error(**dict(zip(words, values)))):
                    for word, kept in zip(words, values):
                        self.assertIs(getattr(made, word), kept)
                    self.assertEqual(vars(made), dict(zip(words, values)))

    def test_another_number_of_arguments_is_an_error(self):
        for name, words in ARGUMENTS.items():
            if words:
                with self.assertRaises(TypeError):
                    getattr(errors, name)(*range(len(words) + 1))

    def test_they_can_be_raised_and_caught(self):
        for name, words in ARGUMENTS.items():
            error = getattr(errors, name)
            with self.assertRaises(errors.BackError) as caught:
                raise error(*words)
            self.assertIs(type(caught.exception), error)
            self.assertIsInstance(str(caught.exception), str)


if __name__ == "__main__":
    unittest.main()
