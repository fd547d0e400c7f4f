"""The interface: where functions and classes are defined, and the names of their parameters."""

import importlib
import inspect
import unittest

# For each module the parameters of its functions, and of the methods of its classes. A "*" stands before
# parameters that are passed by name only, and before a parameter that takes all that are passed; "**" before one
# that takes all that are passed by name.
FUNCTIONS = {
    "filters": {
        "compare": "name sign number", "is_empty": "name", "outcomes": "chosen table key cells",
    },
    "rules": {"trusting": "moves whole", "doubting": "moves whole"},
}
CLASSES = {
    "tables": {
        "Column": {"__init__": "self name * large fixed empty", "__eq__": "self other"},
        "Table": {
            "__init__": "self columns", "of": "*columns", "column": "self name", "check": "self key cells",
            "__contains__": "self x", "__len__": "self", "__eq__": "self other",
        },
    },
    "filters": {
        "Filter": {
            "every": "", "nothing": "", "truth": "self key cells", "mentions": "self", "numbers": "self name",
            "__contains__": "self x", "__eq__": "self other", "__invert__": "self", "__and__": "self other",
            "__or__": "self other", "__sub__": "self other", "__xor__": "self other",
        },
    },
    "messages": {
        "Message": {},
        "Put": {"__init__": "self key cells", "__eq__": "self other"},
        "Change": {"__init__": "self key cells", "__eq__": "self other"},
        "Take": {"__init__": "self key", "__eq__": "self other"},
    },
    "copies": {
        "Habits": {
            "__init__": "self * present lacking gone shared", "turned": "self **habits", "__eq__": "self other",
        },
        "Copy": {
            "__init__": "self columns habits", "apply": "self message * feed", "rows": "self", "holders": "self key",
            "__getitem__": "self at", "__contains__": "self x", "__len__": "self", "__iter__": "self",
        },
    },
    "rules": {"Rule": {"__init__": "self deeds", "__call__": "self moves whole", "deeds": "self"}},
    "networks": {
        "Target": {"__init__": "self name columns **habits"},
        "Feed": {"__init__": "self source target * where elder rule", "__rshift__": "self other"},
        "Network": {
            "__init__": "self table targets feeds", "of": "table *parts", "weight": "self", "span": "self many",
            "columns_of": "self source", "filter_of": "self name", "due": "self name key cells",
            "turned": "self name **habits", "with_elder": "self at elder", "with_rule": "self at rule",
            "with_filter": "self at where",
        },
    },
}
STATIC = ["every", "nothing"]
OF_CLASS = ["of"]
PROPERTIES = {"Put": ["cells"], "Change": ["cells"], "Take": ["cells"]}
CLASS_VALUES = {
    "Table": {"KEY": "key", "MOST": 3}, "Put": {"deed": "put"}, "Change": {"deed": "change"},
    "Take": {"deed": "take"},
}


def module(name):
    return importlib.import_module(f"filteredcopies.{name}")


def parameters(called):
    """The names of the parameters, as in the tables above."""
    words = []
    only_by_name = False
    for parameter in inspect.signature(called).parameters.values():
        if parameter.kind == parameter.KEYWORD_ONLY and not only_by_name:
            words.append("*")
            only_by_name = True
        stars = {parameter.VAR_POSITIONAL: "*", parameter.VAR_KEYWORD: "**"}
        words.append(stars.get(parameter.kind, "") + parameter.name)
    return " ".join(words)


class Interface(unittest.TestCase):
    def test_functions(self):
        for name, functions in FUNCTIONS.items():
            for function, expected in functions.items():
                found = getattr(module(name), function)
                self.assertEqual(found.__module__, f"filteredcopies.{name}")
                self.assertTrue(inspect.isfunction(found))
                self.assertEqual(parameters(found), expected, function)

    def test_classes_and_their_own_methods(self):
        for name, classes in CLASSES.items():
            for told, methods in classes.items():
                found = getattr(module(name), told)
                self.assertEqual(found.__module__, f"filteredcopies.{name}")
                self.assertTrue(inspect.isclass(found))
                for method, expected in methods.items():
                    self.assertIn(method, vars(found), told)
                    self.assertEqual(parameters(getattr(found, method)), expected, f"{told}.{method}")

    def test_static_and_class_methods_and_properties(self):
        for name, classes in CLASSES.items():
            for told in classes:
                for method, made in vars(getattr(module(name), told)).items():
                    self.assertIs(isinstance(made, staticmethod), method in STATIC, method)
                    self.assertIs(isinstance(made, classmethod), method in OF_CLASS, method)
                    self.assertIs(isinstance(made, property), method in PROPERTIES.get(told, []), method)

    def test_properties_and_class_values_of_the_class_itself(self):
        for name, classes in CLASSES.items():
            for told in classes:
                found = vars(getattr(module(name), told))
                for value in PROPERTIES.get(told, []):
                    self.assertIn(value, found, told)
                for value, expected in CLASS_VALUES.get(told, {}).items():
                    self.assertEqual(found[value], expected, told)


if __name__ == "__main__":
    unittest.main()
