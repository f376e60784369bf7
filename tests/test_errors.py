"""Errors [20], [4]."""

import unittest

from belowall import errors
from tests.anyvalues import any_values, truths

FIELDS = {
    "Wrong": ["place"], "NoHand": ["hand"], "NoProcess": ["process"], "NoDeed": ["deed"], "NoWord": ["word"],
    "Stuck": ["agent"], "NoChild": ["name"], "NoPipe": ["pipe"], "NoText": [], "Nothing": [],
    "Fails": ["fact", "step"], "NoFact": ["fact"], "There": ["fact"], "Absent": ["fact"], "Busy": [],
    "Stopped": ["index"], "NoCommand": [],
}


def classes():
    return {word: getattr(errors, word) for word in FIELDS}


class ErrorsTest(unittest.TestCase):
    def test_there_are_seventeen_and_no_others(self):
        self.assertEqual(len(FIELDS), 17)
        found = [word for word, thing in vars(errors).items() if isinstance(thing, type)]
        self.assertEqual(sorted(found), sorted([*FIELDS, "KernelError"]))

    def test_how_the_classes_stand_to_one_another(self):
        self.assertEqual(errors.KernelError.__bases__, (ValueError,))
        for word, made in classes().items():
            self.assertEqual(made.__bases__, (errors.KernelError,), word)
            self.assertEqual(made.__name__, word)
            for other, another in classes().items():
                self.assertEqual(issubclass(made, another), word == other)

    def test_each_is_defined_in_its_file(self):
        for made in [errors.KernelError, *classes().values()]:
            self.assertEqual(made.__module__, "belowall.errors")

    def test_fields_are_the_very_objects(self):
        for value in any_values() + truths():
            for word, made in classes().items():
                names = FIELDS[word]
                handed = [[value], value][:len(names)]
                error = made(*handed)
                self.assertEqual(sorted(vars(error)), sorted(names))
                for name, thing in zip(names, handed):
                    self.assertIs(getattr(error, name), thing)

    def test_fields_keep_their_order(self):
        error = errors.Fails("alone", ("map", "put"))
        self.assertEqual([error.fact, error.step], ["alone", ("map", "put")])

    def test_arguments_may_be_named(self):
        for word, made in classes().items():
            handed = {name: object() for name in FIELDS[word]}
            self.assertEqual(vars(made(**handed)), handed)

    def test_what_is_kept_is_no_copy_and_stays(self):
        value = [1, {"a": [2]}]
        error = errors.NoHand(value)
        value.append(3)
        self.assertIs(error.hand, value)
        self.assertEqual(error.hand, [1, {"a": [2]}, 3])

    def test_raised_ones_are_caught(self):
        for word, made in classes().items():
            for catcher in (made, errors.KernelError, ValueError):
                handed = [[word] for _ in FIELDS[word]]
                with self.assertRaises(catcher) as caught:
                    raise made(*handed)
                self.assertIs(caught.exception.__class__, made)
                for name, thing in zip(FIELDS[word], handed):
                    self.assertIs(getattr(caught.exception, name), thing)

    def test_raised_ones_are_not_caught_by_the_others(self):
        for word, made in classes().items():
            for other, another in classes().items():
                if word == other:
                    continue
                try:
                    raise made(*FIELDS[word])
                except another:
                    self.fail(f"{word} is caught by {other}")
                except errors.KernelError:
                    pass


if __name__ == "__main__":
    unittest.main()
