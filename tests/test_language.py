"""Rules of LANGUAGE.md that can be seen in the code by simple means; the other ones are left to the reader."""

import ast
import builtins
import io
import pathlib
import re
import tokenize
import unittest

PACKAGE = pathlib.Path(__file__).resolve().parent.parent / "selfcrossed"
FILES = sorted(PACKAGE.rglob("*.py"))
LIBRARY = {
    "heapq": {"heappush", "heappop", "heapify", "heapreplace", "heappushpop"},
    "math": {"gcd", "lcm", "isqrt", "comb", "perm", "factorial"},
    "itertools": {"product", "combinations", "permutations"},
}
BUILTINS = set(
    "len range enumerate zip min max sum abs sorted reversed int str bool bytes list tuple dict set frozenset isinstance "
    "ord repr any all divmod iter next map Exception ValueError TypeError KeyError IndexError LookupError "
    "ZeroDivisionError ArithmeticError OverflowError RuntimeError NotImplementedError StopIteration "
    "NotImplemented super property staticmethod classmethod object".split()
)
METHODS = set(
    "append clear copy count endswith extend find get index insert isalnum isalpha isdigit islower isspace isupper items "
    "join keys ljust lower lstrip partition pop remove replace reverse rfind rjust rpartition rsplit rstrip setdefault "
    "split splitlines startswith strip update upper values zfill bit_length title capitalize swapcase casefold center "
    "expandtabs removeprefix removesuffix rindex isascii isdecimal isnumeric istitle isidentifier isprintable translate "
    "add discard sort maketrans".split()
)
BARRED_NAMES = set(
    "register mro elements open input law version_info with_traceback add_note attrgetter breakpoint builtins compile "
    "copyright credits delattr dir eval exec exit gc getattr globals hasattr help id importlib license locals "
    "methodcaller os quit setattr type vars sys format format_map".split()
)
BARRED_WORDS = set(
    "type typing typing_extensions enum Enum IntEnum StrEnum Flag IntFlag Generic Protocol ABC ABCMeta namedtuple "
    "NamedTuple TypedDict TYPE_CHECKING abstractmethod dataclass overload contextmanager".split()
)
BARRED_NODES = (
    ast.Global, ast.AsyncFunctionDef, ast.AsyncFor, ast.AsyncWith, ast.Await, ast.Import, ast.Div, ast.MatMult,
    ast.MatchClass, ast.MatchMapping,
)
MODULE_LEVEL = (ast.ImportFrom, ast.FunctionDef, ast.ClassDef, ast.Assign)
CHANGING = set("append clear extend insert pop remove reverse setdefault update sort add discard".split())
WALKERS = {"enumerate", "zip", "reversed", "map"}
OPERATORS = {"__eq__", "__repr__", "__str__", "__len__", "__contains__"}
OWN_NAMES = {"__init__", "__eq__", "__enter__", "__exit__", "__contains__", "__all__", "__version__"}
DECORATORS = re.compile(r"property|staticmethod|classmethod|\w+\.setter")


def tree_of(file):
    return ast.parse(file.read_text())


def nodes_of(file, *kinds):
    return [node for node in ast.walk(tree_of(file)) if isinstance(node, kinds)]


def docstrings(file):
    holders = nodes_of(file, ast.Module, ast.ClassDef, ast.FunctionDef)
    return {ast.get_docstring(holder, clean=False) for holder in holders}


def is_in_docstrings(text, told):
    """Whether a string as it is written is one of the docstrings; before Python 3.12 f-strings come as strings, too."""
    return "f" not in text.partition(text[-1])[0] and ast.literal_eval(text) in told


def words_of(file):
    """The words in a file but for its comments and docstrings."""
    words = set()
    told = docstrings(file)
    for token in tokenize.generate_tokens(io.StringIO(file.read_text()).readline):
        if token.type == tokenize.STRING and is_in_docstrings(token.string, told):
            continue
        if token.type != tokenize.COMMENT:
            words.update(re.findall(r"\w+", token.string))
    return words


def bound_names(file):
    """The names that a file gives to functions, classes, parameters and variables."""
    names = [node.name for node in nodes_of(file, ast.FunctionDef, ast.ClassDef)]
    names += [node.arg for node in nodes_of(file, ast.arg)]
    names += [node.id for node in nodes_of(file, ast.Name) if isinstance(node.ctx, ast.Store)]
    return names


def imports_of(file):
    return {node.module for node in nodes_of(file, ast.ImportFrom) if node.module.startswith("selfcrossed")}


def walked_in(walked):
    """What a loop over this walks, as it is written: also through `enumerate` and the like, but not through a copy."""
    if isinstance(walked, (ast.Name, ast.Attribute, ast.Subscript)):
        return {ast.unparse(walked)}
    if isinstance(walked, ast.IfExp):
        return walked_in(walked.body) | walked_in(walked.orelse)
    if isinstance(walked, ast.BoolOp):
        return {told for each in walked.values for told in walked_in(each)}
    if isinstance(walked, ast.Call):
        called = ast.unparse(walked.func)
        if called in WALKERS:
            return {told for each in walked.args for told in walked_in(each)}
        if called.endswith((".items", ".keys", ".values")):
            return {called.rpartition(".")[0]}
    return set()


def changed_in(rows):
    """What is changed in these rows, as it is written: by its items, by a method, by `+=`."""
    found = set()
    for node in [node for row in rows for node in ast.walk(row)]:
        targets = node.targets if isinstance(node, (ast.Assign, ast.Delete)) else [getattr(node, "target", None)]
        for target in [each for told in targets if told is not None for each in ast.walk(told)]:
            if isinstance(target, ast.Subscript):
                found.add(ast.unparse(target.value))
        if isinstance(node, ast.AugAssign):
            found.add(ast.unparse(node.target))
        if isinstance(node, ast.Call) and isinstance(node.func, ast.Attribute) and node.func.attr in CHANGING:
            found.add(ast.unparse(node.func.value))
    return found


def called_in(function):
    """The names of what is called in a function, of functions and of methods."""
    calls = [node.func for node in ast.walk(function) if isinstance(node, ast.Call)]
    return {call.id if isinstance(call, ast.Name) else call.attr for call in calls}


def own_functions():
    """For each name of a function or a method of the package all those that have it."""
    found = {}
    for file in FILES:
        for node in nodes_of(file, ast.FunctionDef):
            found.setdefault(node.name, []).append(node)
    return found


def is_property(function):
    return any(ast.unparse(decorator) == "property" for decorator in function.decorator_list)


def made_here(function):
    """The names to which a function gives lists that it creates."""
    lists = (ast.List, ast.ListComp)
    assigned = [node for node in ast.walk(function) if isinstance(node, ast.Assign) and isinstance(node.value, lists)]
    return {ast.unparse(target) for node in assigned for target in node.targets}


def attributes_set(function):
    """The attributes that are assigned in a function."""
    stored = [node for node in ast.walk(function) if isinstance(node, ast.Attribute)]
    return [ast.unparse(node) for node in stored if not isinstance(node.ctx, ast.Load)]


def for_each_file(check):
    def check_all(self):
        for file in FILES:
            with self.subTest(file.name):
                check(self, file)
    return check_all


class Language(unittest.TestCase):
    def test_files(self):
        others = [path.name for path in PACKAGE.rglob("*") if path.suffix != ".py" and "__pycache__" not in path.parts]
        self.assertEqual(others, [])
        self.assertIn(PACKAGE / "__init__.py", FILES)
        for file in FILES:
            self.assertRegex(file.name, r"^[a-z0-9_]+\.py$")

    @for_each_file
    def test_characters_and_sizes(self, file):
        text = file.read_bytes().decode("ascii")
        self.assertEqual([sign for sign in text if sign != "\n" and not " " <= sign <= "~"], [])
        self.assertLessEqual(text.count("\n"), 399)
        self.assertLessEqual(max([len(line) for line in text.split("\n")]), 120)
        for node in nodes_of(file, ast.FunctionDef):
            self.assertLessEqual(node.end_lineno - node.lineno + 1, 40, node.name)

    @for_each_file
    def test_imports(self, file):
        for node in nodes_of(file, ast.ImportFrom):
            names = {alias.name for alias in node.names}
            self.assertEqual(node.level, 0)
            if node.module in LIBRARY:
                self.assertLessEqual(names, LIBRARY[node.module])
                self.assertEqual([alias.asname for alias in node.names if alias.asname], [])
            else:
                self.assertRegex(node.module, r"^selfcrossed\.\w+$")
                told = tree_of(PACKAGE / (node.module.split(".")[1] + ".py")).body
                defined = {each.name for each in told if isinstance(each, (ast.FunctionDef, ast.ClassDef))}
                defined |= {each.targets[0].id for each in told if isinstance(each, ast.Assign)}
                self.assertLessEqual(names, defined)

    @for_each_file
    def test_what_is_imported_is_used(self, file):
        imported = {alias.name for node in nodes_of(file, ast.ImportFrom) for alias in node.names}
        self.assertLessEqual(imported, {node.id for node in nodes_of(file, ast.Name)})

    def test_no_rounds_of_imports(self):
        left = {f"selfcrossed.{file.stem}": imports_of(file) for file in FILES}
        while left:
            ready = [name for name in left if not left[name] & set(left)]
            self.assertNotEqual(ready, [], f"these import one another: {sorted(left)}")
            left = {name: left[name] for name in left if name not in ready}

    @for_each_file
    def test_module_level(self, file):
        names = []
        for node in tree_of(file).body:
            if isinstance(node, ast.Expr):
                self.assertIsInstance(ast.literal_eval(node.value), str)
                continue
            self.assertIsInstance(node, MODULE_LEVEL)
            if isinstance(node, ast.ImportFrom):
                names += [alias.asname or alias.name for alias in node.names]
            elif isinstance(node, ast.Assign):
                names += [target.id for target in node.targets]
                self.assertEqual(len(node.targets), 1)
            else:
                names.append(node.name)
        self.assertEqual(len(names), len(set(names)), "a name is bound twice")

    @for_each_file
    def test_statements_and_signs(self, file):
        self.assertEqual([node.lineno for node in nodes_of(file, *BARRED_NODES)], [])
        # Classes with an order or `__eq__` bar most generator expressions, so lists are taken everywhere.
        self.assertEqual([node.lineno for node in nodes_of(file, ast.GeneratorExp)], [])
        for node in nodes_of(file, ast.Constant):
            self.assertNotIsInstance(node.value, (float, complex))
            self.assertFalse(isinstance(node.value, str) and "%" in node.value)
        for node in nodes_of(file, ast.FunctionDef, ast.ClassDef):
            for decorator in node.decorator_list:
                self.assertRegex(ast.unparse(decorator), DECORATORS)
        for node in nodes_of(file, ast.ExceptHandler):
            self.assertIsNotNone(node.type)
        for node in nodes_of(file, ast.Compare):
            for operator, side in zip(node.ops, node.comparators):
                if isinstance(operator, (ast.Is, ast.IsNot)) and ast.unparse(node.left) != "self":
                    self.assertIn(ast.unparse(side), ("None", "True", "False"))

    @for_each_file
    def test_no_method_is_read_off_a_class(self, file):
        # It goes along with `self is other`.
        classes = {node.name for each in FILES for node in nodes_of(each, ast.ClassDef)}
        for node in nodes_of(file, ast.Attribute):
            self.assertNotIn(ast.unparse(node.value), classes)

    @for_each_file
    def test_stars_in_calls(self, file):
        for node in nodes_of(file, ast.Call):
            for argument in node.args:
                if isinstance(argument, ast.Starred):
                    self.assertIsInstance(argument.value, (ast.Name, ast.Attribute))

    @for_each_file
    def test_names(self, file):
        methods = {each.name for holder in nodes_of(file, ast.ClassDef) for each in holder.body if hasattr(each, "name")}
        for name in bound_names(file):
            self.assertNotIn(name, BARRED_NAMES | {"iter", "next", "map"})
            self.assertTrue(re.fullmatch(r"_?[A-Za-z][A-Za-z0-9_]*|_", name) or name in OWN_NAMES, name)
            # Python's own `_` is but what doctest leaves behind.
            self.assertFalse(hasattr(builtins, name) and name not in methods and name != "_", name)
        for node in nodes_of(file, ast.Attribute):
            self.assertNotIn(node.attr, BARRED_NAMES)
        self.assertEqual(words_of(file) & BARRED_WORDS, set())

    @for_each_file
    def test_builtins(self, file):
        bound = set(bound_names(file))
        for node in nodes_of(file, ast.Name):
            if hasattr(builtins, node.id) and node.id not in bound:
                self.assertIn(node.id, BUILTINS)

    @for_each_file
    def test_methods_of_builtin_values(self, file):
        own = {node.name for file in FILES for node in nodes_of(file, ast.FunctionDef)}
        for node in nodes_of(file, ast.Call):
            if isinstance(node.func, ast.Attribute):
                self.assertIn(node.func.attr, METHODS | own)

    @for_each_file
    def test_no_name_of_an_import_or_a_class_is_given_again(self, file):
        held = {alias.name for node in nodes_of(file, ast.ImportFrom) for alias in node.names}
        held |= {node.name for node in nodes_of(file, ast.ClassDef)}
        given = [node.arg for node in nodes_of(file, ast.arg)]
        given += [node.id for node in nodes_of(file, ast.Name) if isinstance(node.ctx, ast.Store)]
        self.assertEqual(held & set(given), set())

    @for_each_file
    def test_no_loop_changes_what_it_walks(self, file):
        for node in nodes_of(file, ast.For):
            self.assertEqual(walked_in(node.iter) & changed_in(node.body), set(), f"row {node.lineno}")
        for node in nodes_of(file, ast.ListComp, ast.DictComp, ast.SetComp):
            for each in node.generators:
                self.assertEqual(walked_in(each.iter) & changed_in([node]), set(), f"row {node.lineno}")

    def test_properties_and_operators_change_nothing(self):
        functions = own_functions()
        reached = [each for told in functions.values() for each in told if is_property(each) or each.name in OPERATORS]
        names = set()
        for function in reached:
            # What stands for an item or an attribute that is set is no list that the function created.
            self.assertLessEqual(changed_in(function.body), made_here(function), function.name)
            self.assertEqual(attributes_set(function), [], function.name)
            parameters = {each.arg for each in function.args.args}
            for name in sorted(called_in(function) - names):
                # A name stands for all functions that have it, and what is passed may be any function.
                self.assertNotIn(name, parameters, function.name)
                self.assertLessEqual(len(functions.get(name, [])), 1, f"{name}, called in {function.name}")
                names.add(name)
                reached.extend(functions.get(name, []))
        self.assertLessEqual({"turns_in", "same_way_of", "three_ways_of", "is_name_of"}, names)
