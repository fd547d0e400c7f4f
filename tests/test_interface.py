"""The interface: where functions and classes are defined, and the names of their parameters."""

import importlib
import inspect
import unittest

# For each module the parameters of its functions, and of the methods of its classes. A "*" stands before
# parameters that are passed by name only, and before a parameter that takes all that are passed.
FUNCTIONS = {
    "filters": {
        "compare": "name sign number", "is_empty": "name", "outcomes": "chosen table key cells",
    },
}
CLASSES = {
    "tables": {
        "Column": {"__init__": "self name * large fixed empty", "__eq__": "self other"},
        "Table": {
            "__init__": "self columns", "of": "*columns", "column": "self name", "check": "self key cells",
            "__contains__": "self x", "__len__": "self", "__eq__": "self other",
        },
    },
    "filters": {
        "Filter": {
            "every": "", "nothing": "", "truth": "self key cells", "mentions": "self", "numbers": "self name",
            "__contains__": "self x", "__eq__": "self other", "__invert__": "self", "__and__": "self other",
            "__or__": "self other", "__sub__": "self other", "__xor__": "self other",
        },
    },
}
STATIC = ["every", "nothing"]
OF_CLASS = ["of"]


def module(name):
    return importlib.import_module(f"filteredcopies.{name}")


def parameters(called):
    """The names of the parameters, as in the tables above."""
    words = []
    only_by_name = False
    for parameter in inspect.signature(called).parameters.values():
        if parameter.kind == parameter.KEYWORD_ONLY and not only_by_name:
            words.append("*")
            only_by_name = True
        words.append(("*" if parameter.kind == parameter.VAR_POSITIONAL else "") + parameter.name)
    return " ".join(words)


class Interface(unittest.TestCase):
    def test_functions(self):
        for name, functions in FUNCTIONS.items():
            for function, expected in functions.items():
                found = getattr(module(name), function)
                self.assertEqual(found.__module__, f"filteredcopies.{name}")
                self.assertTrue(inspect.isfunction(found))
                self.assertEqual(parameters(found), expected, function)

    def test_classes_and_their_own_methods(self):
        for name, classes in CLASSES.items():
            for told, methods in classes.items():
                found = getattr(module(name), told)
                self.assertEqual(found.__module__, f"filteredcopies.{name}")
                self.assertTrue(inspect.isclass(found))
                for method, expected in methods.items():
                    self.assertIn(method, vars(found), told)
                    self.assertEqual(parameters(getattr(found, method)), expected, f"{told}.{method}")

    def test_static_and_class_methods(self):
        for classes in CLASSES.values():
            for name in classes:
                found = next(getattr(module(part), name) for part in CLASSES if hasattr(module(part), name))
                for method, made in vars(found).items():
                    self.assertIs(isinstance(made, staticmethod), method in STATIC, method)
                    self.assertIs(isinstance(made, classmethod), method in OF_CLASS, method)


if __name__ == "__main__":
    unittest.main()
