"""Point 4 and section 1 of the interface: the error classes."""

import importlib
import inspect
import pkgutil
import unittest

import logtrees
from logtrees import errors

FIELDS = {
    "InvalidSpans": "item", "InvalidNodes": "item", "InvalidBounds": "item", "InvalidText": "part",
    "OverBudget": "count",
}
OTHERS = [
    "InvalidSize", "InvalidEntry", "InvalidNode", "InvalidSpan", "InvalidNumber", "InvalidHeight", "InvalidBudget",
    "InvalidOperation", "Nothing", "InvalidCommand",
]


class ErrorsTest(unittest.TestCase):
    def test_names(self):
        classes = [name for name, value in vars(errors).items() if inspect.isclass(value)]
        self.assertEqual(sorted(classes), sorted(["LogError", *FIELDS, *OTHERS]))

    def test_log_error(self):
        self.assertEqual(errors.LogError.__bases__, (ValueError,))
        self.assertEqual(str(errors.LogError("told")), "told")

    def test_subclasses_are_direct_and_have_none(self):
        for name in [*FIELDS, *OTHERS]:
            with self.subTest(name=name):
                kind = getattr(errors, name)
                self.assertEqual(kind.__bases__, (errors.LogError,))
                self.assertEqual(kind.__subclasses__(), [])
                self.assertEqual(kind.__module__, "logtrees.errors")

    def test_no_other_subclass(self):
        # All modules that could define one more are loaded first.
        for module in pkgutil.iter_modules(logtrees.__path__):
            importlib.import_module(f"logtrees.{module.name}")
        names = sorted(kind.__name__ for kind in errors.LogError.__subclasses__())
        self.assertEqual(names, sorted([*FIELDS, *OTHERS]))

    def test_fields(self):
        for name, field in FIELDS.items():
            for value in (None, 0, 1, 59, 10 ** 40):
                with self.subTest(name=name, value=value):
                    error = getattr(errors, name)(value)
                    self.assertEqual(vars(error), {field: value})
                    self.assertIsInstance(error, errors.LogError)
                    self.assertIsInstance(str(error), str)

    def test_fields_are_each_object_s_own(self):
        for name, field in FIELDS.items():
            with self.subTest(name=name):
                first, second = getattr(errors, name)(3), getattr(errors, name)(None)
                self.assertEqual((getattr(first, field), getattr(second, field)), (3, None))

    def test_field_is_required(self):
        for name in FIELDS:
            with self.subTest(name=name), self.assertRaises(TypeError):
                getattr(errors, name)()

    def test_strings(self):
        for name in OTHERS:
            with self.subTest(name=name):
                error = getattr(errors, name)("told so")
                self.assertEqual(str(error), "told so")
                self.assertEqual(vars(error), {})

    def test_raised_and_caught(self):
        for name in [*FIELDS, *OTHERS]:
            kind = getattr(errors, name)
            for caught in (kind, errors.LogError, ValueError):
                with self.subTest(name=name, caught=caught), self.assertRaises(caught):
                    raise kind("7")

    def test_no_error_is_caught_as_another(self):
        kinds = [getattr(errors, name) for name in [*FIELDS, *OTHERS]]
        for kind in kinds:
            self.assertEqual([other for other in kinds if issubclass(kind, other)], [kind])


if __name__ == "__main__":
    unittest.main()
