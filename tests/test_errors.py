"""[20], and what [4] says of errors."""

import inspect
import unittest

from soundtitle import errors

FIELDS = {
    "Wrong": ["place"], "NoPlot": ["plot"], "NoPaper": ["number"], "NoSale": ["number"],
    "Needed": ["number", "other"], "Clash": ["name"], "NoTruth": ["truth"], "NoWord": ["word"],
    "Known": ["number"], "Bound": [], "NoPlace": ["place"], "NoNode": ["node"], "NoHead": ["head"],
    "Unlikely": [], "Unlike": ["head"], "NoText": [], "NoDeed": [], "NoGroup": ["numbers"],
    "NoClaim": ["number"], "Broken": ["number", "truth"], "Nothing": [], "Stopped": ["index"],
    "NoCommand": [],
}


class Errors(unittest.TestCase):
    def test_title_error_is_directly_below_value_error(self):
        self.assertEqual(errors.TitleError.__bases__, (ValueError,))

    def test_there_are_just_the_errors_of_the_interface(self):
        found = [name for name, thing in vars(errors).items() if inspect.isclass(thing)]
        self.assertEqual(sorted(found), sorted([*FIELDS, "TitleError"]))
        self.assertEqual(len(FIELDS), 23)

    def test_each_is_directly_below_title_error(self):
        for name in FIELDS:
            self.assertEqual(getattr(errors, name).__bases__, (errors.TitleError,), name)

    def test_each_has_its_signature(self):
        for name, fields in FIELDS.items():
            self.assertEqual(list(inspect.signature(getattr(errors, name)).parameters), fields, name)

    def test_each_keeps_the_very_objects(self):
        for name, fields in FIELDS.items():
            handed = [[name, field] for field in fields]
            error = getattr(errors, name)(*handed)
            for field, thing in zip(fields, handed):
                self.assertIs(getattr(error, field), thing, name)

    def test_each_is_made_with_any_values(self):
        odd = [None, True, 10 ** 39, "a\nb", [], (), {}, {"a": [1]}, errors.Wrong(2), errors.TitleError()]
        for name, fields in FIELDS.items():
            for thing in odd:
                error = getattr(errors, name)(*[thing for _ in fields])
                for field in fields:
                    self.assertIs(getattr(error, field), thing, name)

    def test_each_may_be_raised_and_caught_as_the_others(self):
        for name, fields in FIELDS.items():
            with self.assertRaises(errors.TitleError):
                raise getattr(errors, name)(*fields)

    def test_none_takes_more_than_its_signature(self):
        for name, fields in FIELDS.items():
            with self.assertRaises(TypeError):
                getattr(errors, name)(*fields, 1)


if __name__ == "__main__":
    unittest.main()
