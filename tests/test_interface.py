"""The interface: where functions and classes are defined, and the names of their parameters."""

import importlib
import inspect
import unittest

from helpers import the_example

# For each module the parameters of its functions, and of the methods of its classes. A "*" stands before
# parameters that are passed by name only, and before a parameter that takes all that are passed; "**" before one
# that takes all that are passed by name.
FUNCTIONS = {
    "filters": {
        "compare": "name sign number", "is_empty": "name", "outcomes": "chosen table key cells",
    },
    "rules": {"trusting": "moves whole", "doubting": "moves whole"},
    "signals": {
        "view": "network at key before after", "signal": "network at key before after",
        "sent": "network at key before after",
    },
    "judging": {"judge": "network * names"},
    "repairs": {"least_elder": "network at", "least_turns": "network name"},
    "starts": {"judge_start": "network * mark"},
    "comparing": {"compare_copies": "one other * names"},
}
CLASSES = {
    "tables": {
        "Column": {"__init__": "self name * large fixed empty", "__eq__": "self other"},
        "Table": {
            "__init__": "self columns", "of": "*columns", "column": "self name", "check": "self key cells",
            "__contains__": "self x", "__len__": "self", "__eq__": "self other",
        },
    },
    "filters": {
        "Filter": {
            "every": "", "nothing": "", "truth": "self key cells", "mentions": "self", "numbers": "self name",
            "__contains__": "self x", "__eq__": "self other", "__invert__": "self", "__and__": "self other",
            "__or__": "self other", "__sub__": "self other", "__xor__": "self other",
        },
    },
    "messages": {
        "Message": {},
        "Put": {"__init__": "self key cells", "__eq__": "self other"},
        "Change": {"__init__": "self key cells", "__eq__": "self other"},
        "Take": {"__init__": "self key", "__eq__": "self other"},
    },
    "copies": {
        "Habits": {
            "__init__": "self * present lacking gone shared", "turned": "self **habits", "__eq__": "self other",
        },
        "Copy": {
            "__init__": "self columns habits", "apply": "self message * feed", "rows": "self", "holders": "self key",
            "__getitem__": "self at", "__contains__": "self x", "__len__": "self", "__iter__": "self",
        },
    },
    "rules": {"Rule": {"__init__": "self deeds", "__call__": "self moves whole", "deeds": "self"}},
    "networks": {
        "Target": {"__init__": "self name columns **habits"},
        "Feed": {"__init__": "self source target * where elder rule", "__rshift__": "self other"},
        "Network": {
            "__init__": "self table targets feeds", "of": "table *parts", "weight": "self", "span": "self many",
            "columns_of": "self source", "filter_of": "self name", "due": "self name key cells",
            "turned": "self name **habits", "with_elder": "self at elder", "with_rule": "self at rule",
            "with_filter": "self at where",
        },
    },
    "runs": {
        "Run": {
            "__init__": "self network", "step": "self key cells * order", "play": "self history", "rows": "self name",
            "holders": "self name key", "faults": "self", "messages": "self", "renew": "self at where",
        },
    },
    "judging": {"Verdict": {"shown": "self holding", "__bool__": "self", "__len__": "self"}},
    "guides": {
        "Guide": {
            "__init__": "self network", "signals": "self", "deeds": "self told", "example": "self told",
            "against": "self told deed", "best": "self", "conflict": "self", "__bool__": "self",
        },
    },
    "starts": {"Start": {"__bool__": "self", "__len__": "self"}},
    "comparing": {"Parting": {"__bool__": "self", "__len__": "self"}},
}
STATIC = ["every", "nothing"]
OF_CLASS = ["of"]
PROPERTIES = {
    "Put": ["cells"], "Change": ["cells"], "Take": ["cells"], "Run": ["is_even"], "Verdict": ["history"],
    "Start": ["first", "later"], "Parting": ["history"],
}
CLASS_VALUES = {
    "Table": {"KEY": "key", "MOST": 3}, "Put": {"deed": "put"}, "Change": {"deed": "change"},
    "Take": {"deed": "take"},
}


def module(name):
    return importlib.import_module(f"filteredcopies.{name}")


def parameters(called):
    """The names of the parameters, as in the tables above."""
    words = []
    only_by_name = False
    for parameter in inspect.signature(called).parameters.values():
        if parameter.kind == parameter.KEYWORD_ONLY and not only_by_name:
            words.append("*")
            only_by_name = True
        stars = {parameter.VAR_POSITIONAL: "*", parameter.VAR_KEYWORD: "**"}
        words.append(stars.get(parameter.kind, "") + parameter.name)
    return " ".join(words)


class Interface(unittest.TestCase):
    def test_functions(self):
        for name, functions in FUNCTIONS.items():
            for function, expected in functions.items():
                found = getattr(module(name), function)
                self.assertEqual(found.__module__, f"filteredcopies.{name}")
                self.assertTrue(inspect.isfunction(found))
                self.assertEqual(parameters(found), expected, function)

    def test_classes_and_their_own_methods(self):
        for name, classes in CLASSES.items():
            for told, methods in classes.items():
                found = getattr(module(name), told)
                self.assertEqual(found.__module__, f"filteredcopies.{name}")
                self.assertTrue(inspect.isclass(found))
                for method, expected in methods.items():
                    self.assertIn(method, vars(found), told)
                    self.assertEqual(parameters(getattr(found, method)), expected, f"{told}.{method}")

    def test_static_and_class_methods_and_properties(self):
        for name, classes in CLASSES.items():
            for told in classes:
                for method, made in vars(getattr(module(name), told)).items():
                    self.assertIs(isinstance(made, staticmethod), method in STATIC, method)
                    self.assertIs(isinstance(made, classmethod), method in OF_CLASS, method)
                    self.assertIs(isinstance(made, property), method in PROPERTIES.get(told, []), method)

    def test_properties_and_class_values_of_the_class_itself(self):
        for name, classes in CLASSES.items():
            for told in classes:
                found = vars(getattr(module(name), told))
                for value in PROPERTIES.get(told, []):
                    self.assertIn(value, found, told)
                for value, expected in CLASS_VALUES.get(told, {}).items():
                    self.assertEqual(found[value], expected, told)

    def test_defaults_of_what_is_passed_by_name(self):
        self.assertEqual(inspect.signature(module("judging").judge).parameters["names"].default, None)
        for call, name in ((module("starts").judge_start, "mark"), (module("comparing").compare_copies, "names")):
            self.assertIs(inspect.signature(call).parameters[name].default, inspect.Parameter.empty)
        step = inspect.signature(module("runs").Run.step).parameters
        self.assertEqual(step["order"].default, ())
        self.assertEqual(inspect.signature(module("runs").Run.rows).parameters["name"].default, "table")

    def test_attributes_are_set_on_each_object(self):
        network = the_example()
        judged, right = module("judging").judge, network.turned("big", gone="skip", lacking="make")
        for told in (network, right):
            self.assertTrue({"fault", "key", "holdings"} <= set(vars(judged(told))))
            for mark in ("ahead", "behind"):
                self.assertTrue({"fault", "key"} <= set(vars(module("starts").judge_start(told, mark=mark))))
            parting = module("comparing").compare_copies(network, told, names=("big", "big"))
            self.assertTrue({"key", "stopped"} <= set(vars(parting)))
        self.assertIn("network", vars(module("runs").Run(network)))


if __name__ == "__main__":
    unittest.main()
