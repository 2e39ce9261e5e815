"""The form of the package's files: those rules of LANGUAGE.md that a short check can see."""

import ast
import builtins
import pathlib
import re
import unittest

FOLDER = pathlib.Path(__file__).resolve().parent.parent / "leastahead"
FILES = sorted(FOLDER.rglob("*.py"))
BUILTINS = set("""
    len range enumerate zip min max sum abs sorted reversed int str bool bytes list tuple dict set frozenset
    isinstance ord repr any all divmod iter next property staticmethod classmethod super True False None
    Exception ValueError TypeError KeyError IndexError LookupError ZeroDivisionError ArithmeticError
    OverflowError RuntimeError NotImplementedError AttributeError StopIteration NotImplemented
""".split())
METHODS = set("""
    append clear copy count endswith extend find get index insert isalnum isalpha isdigit islower isspace isupper
    items join keys ljust lower lstrip partition pop remove replace reverse rfind rjust rpartition rsplit rstrip
    setdefault split splitlines startswith strip update upper values zfill bit_length isascii isdecimal
    removeprefix removesuffix rindex add discard __init__
""".split())
BARRED = re.compile(r"""
    \b(type|typing|typing_extensions|enum|Enum|IntEnum|StrEnum|Flag|IntFlag|Generic|Protocol|ABC|ABCMeta|namedtuple
    |NamedTuple|TypedDict|TYPE_CHECKING|abstractmethod)\b|dataclass|overload|contextmanager
""", re.VERBOSE)
SPECIAL = {"__init__", "__eq__", "__len__", "__repr__", "__str__"}
AT_TOP = (ast.ImportFrom, ast.FunctionDef, ast.ClassDef, ast.Assign)
NEVER = (
    ast.Global, ast.AsyncFunctionDef, ast.AsyncFor, ast.AsyncWith, ast.Await, ast.Import, ast.Div, ast.MatMult,
    ast.GeneratorExp,
)


def nodes(path, kinds):
    return [node for node in ast.walk(ast.parse(path.read_text())) if isinstance(node, kinds)]


def with_parents(path):
    """All nodes of a file, each with the node around it."""
    return [(node, around) for around in nodes(path, ast.AST) for node in ast.iter_child_nodes(around)]


def called(node):
    """The name of the function or the method that is called, None if the node is no call."""
    if not isinstance(node, ast.Call):
        return None
    return node.func.id if isinstance(node.func, ast.Name) else getattr(node.func, "attr", None)


def bound_names(path):
    """All names that a file gives to something, with their lines."""
    found = [(node.id, node.lineno) for node in nodes(path, ast.Name) if not isinstance(node.ctx, ast.Load)]
    found += [(node.arg, node.lineno) for node in nodes(path, ast.arg)]
    found += [(node.name, node.lineno) for node in nodes(path, (ast.FunctionDef, ast.ClassDef))]
    found += [(node.attr, node.lineno) for node in nodes(path, ast.Attribute)]
    return found


def names_at_top(path):
    """The names of the functions, classes and values that a file defines itself."""
    found = []
    for statement in ast.parse(path.read_text()).body:
        if isinstance(statement, (ast.FunctionDef, ast.ClassDef)):
            found.append(statement.name)
        elif isinstance(statement, ast.Assign):
            found += [target.id for target in statement.targets]
    return found


class Form(unittest.TestCase):
    def test_the_folder_holds_python_files_alone(self):
        self.assertIn(FOLDER / "__init__.py", FILES)
        for path in FOLDER.rglob("*"):
            if path.name != "__pycache__" and path.parent.name != "__pycache__":
                self.assertRegex(path.name, r"^[a-z_][a-z0-9_]*\.py$")

    def test_characters_and_sizes(self):
        for path in FILES:
            text = path.read_bytes().decode("ascii")
            self.assertEqual([sign for sign in text if sign != "\n" and not " " <= sign <= "~"], [], path.name)
            self.assertLessEqual(len(text.splitlines()), 400, path.name)
            self.assertLessEqual(max([len(line) for line in text.splitlines()]), 120, path.name)
            for node in nodes(path, ast.FunctionDef):
                self.assertLessEqual(node.end_lineno - node.lineno + 1, 40, (path.name, node.name))

    def test_barred_words(self):
        for path in FILES:
            self.assertIsNone(BARRED.search(path.read_text()), path.name)
            for node in nodes(path, ast.Constant):
                self.assertFalse(isinstance(node.value, str) and "%" in node.value, (path.name, node.lineno))

    def test_module_level(self):
        for path in FILES:
            body = ast.parse(path.read_text()).body
            self.assertIsInstance(body[0], ast.Expr, path.name)
            bound = []
            for statement in body[1:]:
                self.assertIsInstance(statement, AT_TOP, (path.name, statement.lineno))
                if isinstance(statement, ast.ImportFrom):
                    bound += [alias.asname or alias.name for alias in statement.names]
                elif isinstance(statement, ast.Assign):
                    bound += [target.id for target in statement.targets]
                else:
                    bound.append(statement.name)
            self.assertEqual(len(bound), len(set(bound)), path.name)

    def test_imports(self):
        defined = {path.stem: names_at_top(path) for path in FILES}
        for path in FILES:
            for node in nodes(path, ast.ImportFrom):
                self.assertEqual(node.level, 0, path.name)
                self.assertTrue(node.module.startswith("leastahead."), (path.name, node.module))
                used = {name.id for name in nodes(path, ast.Name)}
                for alias in node.names:
                    self.assertIn(alias.name, defined[node.module.partition(".")[2]], path.name)
                    self.assertIn(alias.asname or alias.name, used, path.name)

    def test_expressions(self):
        for path in FILES:
            self.assertEqual([node.lineno for node in nodes(path, NEVER)], [], path.name)
            for node in nodes(path, ast.Compare):
                for sign, side in zip(node.ops, node.comparators):
                    if isinstance(sign, (ast.Is, ast.IsNot)):
                        self.assertIn(getattr(side, "value", 0), (None, True, False), (path.name, node.lineno))
            for node in nodes(path, ast.Constant):
                self.assertNotIsInstance(node.value, (float, complex), (path.name, node.lineno))

    def test_names(self):
        for path in FILES:
            for name, line in bound_names(path):
                if name not in SPECIAL:
                    self.assertRegex(name, r"^[A-Za-z][A-Za-z0-9_]*$", (path.name, line))
            for node in nodes(path, ast.Name):
                if hasattr(builtins, node.id):
                    self.assertIn(node.id, BUILTINS, (path.name, node.lineno))
                    self.assertIsInstance(node.ctx, ast.Load, (path.name, node.lineno))
            for node in nodes(path, ast.arg):
                self.assertFalse(hasattr(builtins, node.arg), (path.name, node.lineno))

    def test_methods(self):
        own = {node.name for path in FILES for part in nodes(path, ast.ClassDef) for node in part.body
               if isinstance(node, ast.FunctionDef)}
        for path in FILES:
            for node in nodes(path, ast.Call):
                if isinstance(node.func, ast.Attribute):
                    self.assertIn(node.func.attr, METHODS | own, (path.name, node.lineno))

    def test_methods_and_attributes_have_different_names(self):
        methods = {node.name for path in FILES for part in nodes(path, ast.ClassDef) for node in part.body
                   if isinstance(node, ast.FunctionDef)}
        attributes = {node.attr for path in FILES for node in nodes(path, ast.Attribute)
                      if isinstance(node.ctx, ast.Store)}
        self.assertEqual(methods & attributes, set())

    def test_names_of_imports_and_classes_mean_nothing_else(self):
        for path in FILES:
            taken = {alias.asname or alias.name for node in nodes(path, ast.ImportFrom) for alias in node.names}
            taken |= {node.name for node in nodes(path, ast.ClassDef)}
            local = {node.id for node in nodes(path, ast.Name) if isinstance(node.ctx, ast.Store)}
            local |= {node.arg for node in nodes(path, ast.arg)}
            self.assertEqual(taken & local, set(), path.name)

    def test_no_files_import_from_each_other(self):
        left = {path.stem: {node.module.partition(".")[2] for node in nodes(path, ast.ImportFrom)} for path in FILES}
        while left:
            free = [name for name, needed in left.items() if not needed & set(left)]
            self.assertTrue(free, left)
            for name in free:
                del left[name]

    def test_sets_are_used_on_the_spot(self):
        for path in FILES:
            for node, around in with_parents(path):
                if isinstance(node, (ast.Set, ast.SetComp)) or called(node) in ("set", "frozenset"):
                    self.assertTrue(called(around) in ("sorted", "len") or isinstance(around, ast.Compare),
                                    (path.name, node.lineno))

    def test_what_is_iterated_at_once(self):
        takers = ("list", "tuple", "dict", "sorted", "sum", "any", "all", "enumerate", "zip")
        for path in FILES:
            for node, around in with_parents(path):
                if called(node) in ("zip", "enumerate", "reversed", "range", "items", "keys", "values"):
                    fits = isinstance(around, (ast.For, ast.comprehension)) or called(around) in takers
                    fits = fits or called(node) == "range" and called(around) == "reversed"
                    self.assertTrue(fits, (path.name, node.lineno))
