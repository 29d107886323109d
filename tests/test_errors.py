"""[20] errors."""
import unittest

from askless import errors
from tests.values import odd_values

FIELDS = {
    "Wrong": ["place"], "BadStatement": ["writer", "address"], "NoWriter": ["writer"], "NoPlace": ["place"],
    "TooMany": ["limit"], "NoStep": [], "Fault": ["writer", "address", "name"], "Freed": ["cell"],
    "Gone": ["walker"], "Nothing": [], "NoWalker": ["walker"], "Broken": ["at"], "BadTarget": ["place"],
    "Unknown": ["name"], "NotBare": ["at"], "Hopeless": ["at"], "NotRight": [], "NoChain": ["root", "field"],
    "Unlike": [], "NotPlain": ["which"], "NoRead": ["at"], "NoSwitch": ["place"], "TooFew": ["many"],
    "NoDeed": [], "Full": ["limit"], "NoEntry": ["many"], "NoText": [], "NoCommand": [],
}


class ErrorsTest(unittest.TestCase):
    def test_ask_error_is_a_value_error_of_any_values(self):
        self.assertEqual(errors.AskError.__bases__, (ValueError,))
        for values in [(), (1,), ("x", [2], None), (nested for nested in [[[]]])]:
            with self.assertRaises(ValueError):
                raise errors.AskError(*values)

    def test_there_are_twenty_eight_direct_subclasses(self):
        found = [name for name, thing in vars(errors).items()
                 if isinstance(thing, type) and thing.__bases__ == (errors.AskError,)]
        self.assertEqual(sorted(found), sorted(FIELDS))
        self.assertEqual(len(found), 28)
        self.assertEqual([sub.__name__ for sub in errors.AskError.__subclasses__()], found)

    def test_arguments_are_kept_as_fields_the_objects_themselves(self):
        for name, fields in FIELDS.items():
            for thing in odd_values():
                values = [[thing] for field in fields]
                error = getattr(errors, name)(*values)
                for field, value in zip(fields, values):
                    self.assertIs(getattr(error, field), value)
                self.assertEqual(sorted(vars(error)), sorted(fields))

    def test_arguments_can_be_named(self):
        for name, fields in FIELDS.items():
            values = {field: [field] for field in fields}
            error = getattr(errors, name)(**values)
            self.assertEqual(vars(error), values)

    def test_no_other_arguments(self):
        for name, fields in FIELDS.items():
            with self.assertRaises(TypeError):
                getattr(errors, name)(*[0 for field in fields], 0)
            if fields:
                with self.assertRaises(TypeError):
                    getattr(errors, name)()

    def test_raised_and_caught_by_their_own_class(self):
        with self.assertRaises(errors.AskError) as caught:
            raise errors.Fault(0, (1,), "x")
        self.assertIs(type(caught.exception), errors.Fault)
        self.assertNotIsInstance(caught.exception, errors.Freed)
