"""The rules of ../shared/LANGUAGE.md that can be checked by a look at the files of the package.

These are the ones that are easily broken by accident; the numbers in the messages are those of the rules.
"""

import ast
import builtins
import pathlib
import re
import unittest
import warnings

PACKAGE = pathlib.Path(__file__).resolve().parent.parent / "filteredcopies"
FILES = sorted(PACKAGE.glob("**/*.py"))

ALLOWED_BUILTINS = set(
    "len range enumerate zip min max sum abs sorted reversed int str bool bytes list tuple dict set frozenset"
    " isinstance ord repr any all divmod pow getattr hasattr setattr iter next map type super property staticmethod"
    " classmethod Exception ValueError TypeError KeyError IndexError LookupError ZeroDivisionError ArithmeticError"
    " OverflowError RuntimeError NotImplementedError AttributeError StopIteration NotImplemented".split()
)
METHODS = set(
    "append clear copy count endswith extend find get index insert isalnum isalpha isdigit islower isspace isupper"
    " items join keys ljust lower lstrip partition pop remove replace reverse rfind rjust rpartition rsplit rstrip"
    " setdefault split splitlines startswith strip update upper values zfill bit_length add discard".split()
)
# Without product, combinations and permutations: there is a class that is iterated over and has a length.
LIBRARY = {
    "heapq": "heappush heappop heapify heapreplace heappushpop", "math": "gcd lcm isqrt comb perm factorial",
    "itertools": "chain accumulate pairwise islice zip_longest",
    "collections": "defaultdict deque", "__future__": "annotations",
}
DOUBLE = set(
    "init eq repr str len enter exit call iter lt le gt ge ne add sub mul floordiv mod pow and or xor lshift rshift"
    " neg pos invert abs bool contains getitem setitem".split()
)
BARRED_NAMES = set(
    "register mro elements open input law version_info with_traceback add_note attrgetter breakpoint builtins compile"
    " copyright credits delattr dir eval exec exit gc globals help id importlib license locals methodcaller os quit"
    " vars sys".split()
)
BARRED_WORDS = set(
    "typing typing_extensions enum Enum IntEnum StrEnum Flag IntFlag Generic Protocol ABC ABCMeta namedtuple"
    " NamedTuple TypedDict TYPE_CHECKING abstractmethod".split()
)
DECORATORS = {"property", "staticmethod", "classmethod"}


class Module:
    """A file of the package with its text and its tree."""

    def __init__(self, path):
        self.path = path
        self.name = path.name
        self.text = path.read_bytes().decode("ascii")
        with warnings.catch_warnings():
            warnings.simplefilter("error")
            self.tree = ast.parse(self.text)
            compile(self.text, self.name, "exec")
        self.nodes = list(ast.walk(self.tree))

    def of(self, *kinds):
        return [node for node in self.nodes if isinstance(node, kinds)]

    def functions(self):
        return self.of(ast.FunctionDef)

    def bound(self):
        """The names that are bound at module level, one for each binding."""
        names = []
        for node in self.tree.body:
            if isinstance(node, ast.ImportFrom):
                names += [alias.asname or alias.name for alias in node.names]
            elif isinstance(node, (ast.FunctionDef, ast.ClassDef)):
                names.append(node.name)
            elif isinstance(node, ast.Assign):
                names += [target.id for target in node.targets]
        return names

    def local_names(self):
        """Parameters, variables, nested functions and caught errors."""
        names = [node.arg for node in self.of(ast.arg)]
        for function in self.functions():
            for node in ast.walk(function):
                if isinstance(node, ast.Name) and isinstance(node.ctx, ast.Store):
                    names.append(node.id)
                if isinstance(node, ast.FunctionDef) and node is not function:
                    names.append(node.name)
                if isinstance(node, ast.ExceptHandler) and node.name is not None:
                    names.append(node.name)
        return set(names)


MODULES = [Module(path) for path in FILES]


def stored_attributes(node):
    """The names of the attributes that are assigned somewhere in a tree."""
    return {
        part.attr for part in ast.walk(node) if isinstance(part, ast.Attribute) and isinstance(part.ctx, ast.Store)
    }


def methods_of(node):
    return {part.name for part in node.body if isinstance(part, ast.FunctionDef)}


def class_values_of(node):
    return {part.targets[0].id for part in node.body if isinstance(part, ast.Assign)}


CHANGING = set("append clear discard extend insert pop remove reverse setdefault sort update add".split())
GOING_OVER = {"enumerate", "zip", "reversed", "iter"}
VIEWS = {"items", "keys", "values"}


def places(node):
    """Where the value of an expression may be kept: names, attributes, and items of these."""
    if isinstance(node, ast.Name):
        return [node.id]
    if isinstance(node, ast.Attribute):
        return ["." + node.attr]
    if isinstance(node, ast.Subscript):
        return [place + "[]" for place in places(node.value)]
    if isinstance(node, ast.IfExp):
        return places(node.body) + places(node.orelse)
    if isinstance(node, ast.BoolOp):
        return [place for part in node.values for place in places(part)]
    if isinstance(node, ast.Call) and isinstance(node.func, ast.Attribute) and node.func.attr in ("get", "setdefault"):
        return [place + "[]" for place in places(node.func.value)] + [p for part in node.args[1:] for p in places(part)]
    return []


def gone_over(node):
    """The places of what a loop over an expression goes over."""
    if isinstance(node, ast.Call) and isinstance(node.func, ast.Name) and node.func.id in GOING_OVER:
        return [place for part in node.args for place in gone_over(part)]
    if isinstance(node, ast.Call) and isinstance(node.func, ast.Attribute) and node.func.attr in VIEWS:
        return places(node.func.value)
    return places(node)


def changed_within(node):
    """The places of what is changed by items or by methods somewhere in a tree."""
    found = []
    for part in ast.walk(node):
        if isinstance(part, ast.Subscript) and isinstance(part.ctx, (ast.Store, ast.Del)):
            found += places(part.value)
        if isinstance(part, ast.AugAssign):
            found += places(part.target)
        if isinstance(part, ast.Call) and isinstance(part.func, ast.Attribute) and part.func.attr in CHANGING:
            found += places(part.func.value)
        if isinstance(part, ast.Call) and isinstance(part.func, ast.Name) and part.func.id.startswith("heap"):
            found += places(part.args[0])
    return found


class Aliases:
    """Which places of a function may hold the same list or dict, by its assignments and its loops."""

    def __init__(self, function):
        self._groups = {}
        for node in ast.walk(function):
            if isinstance(node, (ast.Assign, ast.NamedExpr)):
                targets = node.targets if isinstance(node, ast.Assign) else [node.target]
                for target in targets:
                    self._join(places(target) + places(node.value))
            if isinstance(node, (ast.For, ast.comprehension)):
                self._join(places(node.target) + [place + "[]" for place in gone_over(node.iter)])

    def _join(self, kept):
        joined = set(kept).union(*[self.of(place) for place in kept])
        for place in joined:
            self._groups[place] = joined

    def of(self, place):
        return self._groups.get(place, {place})


def changed_loops(function):
    """The lines of a function in which a loop may change what it goes over."""
    aliases = Aliases(function)
    lines = []
    for node in ast.walk(function):
        if isinstance(node, ast.For):
            loops, body = [node], node.body
        elif isinstance(node, (ast.ListComp, ast.SetComp, ast.DictComp)):
            loops, body = node.generators, [node]
        else:
            continue
        changed = {place for part in body for place in changed_within(part)}
        for loop in loops:
            if any(aliases.of(place) & changed for place in gone_over(loop.iter)):
                lines.append(node.lineno)
    return lines


def is_set(node):
    return isinstance(node, (ast.Set, ast.SetComp)) or (
        isinstance(node, ast.Call) and isinstance(node.func, ast.Name) and node.func.id in ("set", "frozenset")
    )


class Files(unittest.TestCase):
    def test_the_folder_contains_only_files_of_python(self):
        for path in PACKAGE.iterdir():
            if path.name != "__pycache__":
                self.assertRegex(path.name, r"^([a-z][a-z0-9_]*|__init__|__main__)\.py$", "L1 L14")
        self.assertLessEqual(len(FILES), 100)

    def test_size_and_characters(self):
        for module in MODULES:
            self.assertRegex(module.text, r"^[ -~\n]+\Z", f"L14 {module.name}")
            self.assertTrue(module.text.endswith("\n"), module.name)
            lines = module.text.split("\n")
            self.assertLessEqual(len(lines) - 1, 399, f"L10 {module.name}")
            for at, line in enumerate(lines, 1):
                self.assertLessEqual(len(line), 120, f"L10 {module.name}:{at}")
                self.assertEqual(line, line.rstrip(), f"{module.name}:{at}")

    def test_size_of_functions(self):
        for module in MODULES:
            for node in module.functions():
                self.assertLessEqual(node.end_lineno - node.lineno + 1, 40, f"L10 {module.name} {node.name}")

    def test_words_that_do_not_occur(self):
        for module in MODULES:
            for name in re.findall(r"\w+", module.text):
                self.assertNotIn(name, BARRED_WORDS, f"L17 {module.name}")
                self.assertNotRegex(name, r"dataclass|overload|contextmanager|^_?_wall|_WallAttr", f"L17 {module.name}")


class Imports(unittest.TestCase):
    def test_they_name_the_very_file(self):
        bound = {module.path.stem: module.bound() for module in MODULES}
        for module in MODULES:
            self.assertEqual(module.of(ast.Import), [], f"L16 {module.name}")
            for node in module.of(ast.ImportFrom):
                self.assertEqual(node.level, 0, f"L2 {module.name}")
                for alias in node.names:
                    self.assertIsNone(alias.asname, f"L2 {module.name}")
                    if node.module in LIBRARY:
                        self.assertIn(alias.name, LIBRARY[node.module].split(), f"L2 {module.name}")
                        continue
                    package, _, file = node.module.partition(".")
                    self.assertEqual(package, "filteredcopies", f"L2 {module.name}")
                    self.assertIn(alias.name, bound[file], f"L16 {module.name}")

    def test_no_two_files_import_from_each_other(self):
        follow = {
            module.path.stem: {node.module.partition(".")[2] for node in module.of(ast.ImportFrom)}
            for module in MODULES
        }
        for _ in MODULES:
            for name, named in follow.items():
                follow[name] = named.union(*[follow.get(other, set()) for other in named])
        for name, named in follow.items():
            self.assertNotIn(name, named, "L16")


class Names(unittest.TestCase):
    def test_module_level(self):
        for module in MODULES:
            for at, node in enumerate(module.tree.body):
                docstring = at == 0 and isinstance(node, ast.Expr)
                plain = isinstance(node, (ast.ImportFrom, ast.FunctionDef, ast.ClassDef, ast.Assign))
                self.assertTrue(docstring or plain, f"L3 {module.name}:{node.lineno}")
            self.assertEqual(len(module.bound()), len(set(module.bound())), f"L15 {module.name}")

    def test_no_name_has_a_second_meaning(self):
        for module in MODULES:
            capitals = {node.name for node in module.of(ast.ClassDef)}
            imported = {alias.name for node in module.of(ast.ImportFrom) for alias in node.names}
            self.assertEqual(module.local_names() & (capitals | imported), set(), f"L15 {module.name}")
            for name in module.local_names() | set(module.bound()):
                self.assertNotIn(name, dir(builtins), f"L15 {module.name}")
                self.assertNotIn(name, BARRED_NAMES, f"L17 {module.name}")
                self.assertRegex(name, r"^(_|_?[A-Za-z][A-Za-z0-9_]*)$", f"L12 {module.name}")

    def test_only_the_builtins_of_the_rules(self):
        for module in MODULES:
            own = set(module.bound()) | module.local_names()
            for node in module.of(ast.Name):
                if isinstance(node.ctx, ast.Load) and node.id not in own:
                    self.assertIn(node.id, ALLOWED_BUILTINS, f"L8 {module.name}:{node.lineno}")
                self.assertFalse(node.id == "_" and isinstance(node.ctx, ast.Load), f"L12 {module.name}:{node.lineno}")

    def test_only_own_attributes_and_the_methods_of_the_rules(self):
        own = set()
        for module in MODULES:
            own |= stored_attributes(module.tree)
            for node in module.of(ast.ClassDef):
                own |= methods_of(node) | class_values_of(node)
        for module in MODULES:
            for node in module.of(ast.Attribute):
                self.assertIn(node.attr, own | METHODS, f"L25 {module.name}:{node.lineno}")


class Forms(unittest.TestCase):
    def test_statements_and_expressions_that_are_not_used(self):
        barred = (
            ast.AsyncFunctionDef, ast.AsyncFor, ast.AsyncWith, ast.Await, ast.Global, ast.Div, ast.MatMult,
            ast.AnnAssign,
        )
        for module in MODULES:
            self.assertEqual(module.of(*barred), [], f"L6 L7 {module.name}")
            for node in module.of(ast.Constant):
                self.assertNotIsInstance(node.value, (float, complex, bytes), f"L7 {module.name}:{node.lineno}")
                if isinstance(node.value, str):
                    self.assertNotIn("%", node.value, f"L27 {module.name}:{node.lineno}")

    def test_decorators_and_double_underscores(self):
        for module in MODULES:
            for node in module.functions() + module.of(ast.ClassDef):
                names = [told.attr if isinstance(told, ast.Attribute) else told.id for told in node.decorator_list]
                self.assertLessEqual(len(names), 1, f"L5 {module.name} {node.name}")
                self.assertTrue(set(names) <= DECORATORS | {"setter"}, f"L5 {module.name} {node.name}")
                if node.name.startswith("__"):
                    self.assertIn(node.name.strip("_"), DOUBLE, f"L5 {module.name}")

    def test_is_stands_beside_none_true_and_false(self):
        for module in MODULES:
            for node in module.of(ast.Compare):
                for sign, told in zip(node.ops, node.comparators):
                    if isinstance(sign, (ast.Is, ast.IsNot)):
                        self.assertIsInstance(told, ast.Constant, f"L20 {module.name}:{node.lineno}")

    def test_any_and_all_take_lists(self):
        for module in MODULES:
            self.assertEqual(module.of(ast.GeneratorExp), [], f"L7 {module.name}")

    def test_generators(self):
        functions = [node for module in MODULES for node in module.functions()]
        generators = [
            node for node in functions
            if any(isinstance(part, (ast.Yield, ast.YieldFrom)) for part in ast.walk(node))
        ]
        for node in generators:
            self.assertEqual([other.name for other in functions].count(node.name), 1, f"L23 {node.name}")
            self.assertEqual(node.decorator_list, [], f"L23 {node.name}")
            self.assertNotIn(node.name, METHODS, f"L23 {node.name}")
        for module in MODULES:
            for node in module.of(ast.Name):
                self.assertNotEqual(node.id, "StopIteration", f"L19 {module.name}")

    def test_ranges_and_views_are_iterated_on_the_spot(self):
        lazy = {"zip", "enumerate", "reversed", "range", "map"}
        for module in MODULES:
            for node in module.of(ast.Return, ast.Assign):
                if isinstance(node.value, ast.Call):
                    called = node.value.func
                    name = called.id if isinstance(called, ast.Name) else getattr(called, "attr", None)
                    self.assertNotIn(name, lazy | {"items", "keys", "values"}, f"L23 {module.name}:{node.lineno}")

    def test_no_loop_changes_what_it_goes_over(self):
        for module in MODULES:
            for node in module.functions():
                self.assertEqual(changed_loops(node), [], f"L23 {module.name} {node.name}")

    def test_the_look_for_changed_loops_follows_names_items_and_choices(self):
        head, body = "def f(self, a, b, c):\n ", "\n for x in {}:\n  {}"
        for before, walked, change in (
            ("pass", "a", "a.append(x)"), ("pass", "enumerate(a)", "a[x] = 1"), ("pass", "a.items()", "del a[x]"),
            ("b = a", "a", "b.pop()"), ("c = b = a", "c", "a.append(x)"), ("b = a if c else x", "b", "a.append(x)"),
            ("b = c or a", "b", "a.add(x)"), ("self.d = a", "self.d", "a.append(x)"), ("b = a[1]", "a[2]", "b.pop()"),
            ("pass", "a", "b.setdefault(x, 1)\n a = b"), ("pass", "a", "heappush(a, x)"), ("b = a", "zip(c, b)", "a += c"),
        ):
            text = head + before + body.format(walked, change)
            self.assertEqual(changed_loops(ast.parse(text).body[0]), [3], text)
            copy = head + before + body.format(f"list({walked})", change)
            self.assertEqual(changed_loops(ast.parse(copy).body[0]), [], copy)
        for before, walked, change in (("b = list(a)", "a", "b.append(x)"), ("b = a", "a", "c.append(a)")):
            text = head + before + body.format(walked, change)
            self.assertEqual(changed_loops(ast.parse(text).body[0]), [], text)

    def test_only_own_errors_are_caught(self):
        own = {node.name for module in MODULES for node in module.of(ast.ClassDef)}
        for module in MODULES:
            for node in module.of(ast.ExceptHandler):
                caught = node.type.elts if isinstance(node.type, ast.Tuple) else [node.type]
                self.assertTrue({part.id for part in caught} <= own, f"L19 {module.name}:{node.lineno}")

    def test_errors_are_created_where_they_are_raised(self):
        for module in MODULES:
            for node in module.of(ast.Raise):
                self.assertIsInstance(node.exc, (ast.Call, type(None)), f"L19 {module.name}:{node.lineno}")
            for node in module.of(ast.ExceptHandler):
                self.assertIsNotNone(node.type, f"L6 {module.name}:{node.lineno}")


class Classes(unittest.TestCase):
    def setUp(self):
        self.classes = [node for module in MODULES for node in module.of(ast.ClassDef)]
        self.stored = set().union(*[stored_attributes(module.tree) for module in MODULES])
        self.methods = [name for node in self.classes for name in methods_of(node)]
        self.values = set().union(*[class_values_of(node) for node in self.classes])
        self.properties = {
            part.name for node in self.classes for part in node.body if isinstance(part, ast.FunctionDef)
            and any(isinstance(told, ast.Name) and told.id == "property" for told in part.decorator_list)
        }

    def test_properties_and_class_values_share_their_names_with_nothing(self):
        plain = {
            part.name for node in self.classes for part in node.body
            if isinstance(part, ast.FunctionDef) and part.name not in self.properties
        }
        self.assertEqual(self.properties & (self.stored | plain | self.values), set(), "L5")
        self.assertEqual(self.values & (self.stored | plain), set(), "L5")

    def test_no_name_is_a_method_and_an_attribute(self):
        for node in self.classes:
            self.assertEqual(stored_attributes(node) & methods_of(node), set(), f"L18 {node.name}")
            names = [part.name for part in node.body if isinstance(part, ast.FunctionDef)]
            self.assertEqual(len(names), len(set(names)), f"L18 {node.name}")

    def test_attributes_are_not_called_as_what_builtin_values_have(self):
        barred = set(
            "items keys values pop update append clear extend insert remove reverse setdefault sort args encode decode"
            " hex fromhex format".split()
        )
        self.assertEqual(self.stored & barred, set(), "L26")
        self.assertNotIn("keys", self.methods, "L5 L7")

    def test_iteration_and_items(self):
        for node in self.classes:
            methods = {part.name: part for part in node.body if isinstance(part, ast.FunctionDef)}
            if "__getitem__" in methods:
                self.assertIn("__iter__", methods, f"L5 {node.name}")
            if "__iter__" in methods:
                self.assertEqual(len(methods["__iter__"].body), 1, f"L5 {node.name}")
                self.assertRegex(ast.unparse(methods["__iter__"].body[0]), r"^return iter\(self\.\w+\)$", "L5")
            if "__len__" in methods:
                self.assertRegex(ast.unparse(methods["__len__"].body[-1]), r"^return (len\(.*\)|\d+)$", "L28")

    def test_functions_that_are_called_with_stars(self):
        for module in MODULES:
            for node in module.of(ast.Call):
                for told in node.args:
                    if isinstance(told, ast.Starred):
                        self.assertIsInstance(told.value, (ast.Name, ast.Attribute), f"L7 {module.name}:{node.lineno}")
                double = [told for told in node.keywords if told.arg is None]
                if double:
                    self.assertEqual(len(node.keywords), 1, f"L7 {module.name}:{node.lineno}")
                    beside = [*node.args, double[0].value]
                    for told in beside:
                        self.assertIsInstance(told, (ast.Name, ast.Attribute, ast.Constant), f"L7 {module.name}")


class Sets(unittest.TestCase):
    def test_sets_stand_where_they_are_sorted_measured_or_compared(self):
        for module in MODULES:
            allowed = []
            for node in module.nodes:
                if isinstance(node, ast.Call) and isinstance(node.func, ast.Name) and node.func.id in ("sorted", "len"):
                    allowed += node.args
                if isinstance(node, ast.Compare):
                    allowed += [node.left, *node.comparators]
                if isinstance(node, ast.Assign) and isinstance(node.targets[0], ast.Name):
                    allowed.append(node.value)
            for node in module.nodes:
                if is_set(node):
                    self.assertIn(node, allowed, f"L24 {module.name}:{node.lineno}")

    def test_lists_and_dicts_of_modules_contain_none(self):
        for module in MODULES:
            for node in module.tree.body:
                if isinstance(node, ast.Assign):
                    inner = [part for part in ast.walk(node.value) if isinstance(part, (ast.List, ast.Dict))]
                    self.assertLessEqual(len(inner), 1, f"L15 {module.name}:{node.lineno}")


if __name__ == "__main__":
    unittest.main()
