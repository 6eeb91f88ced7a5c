"""Checks of the package's files against those rules of LANGUAGE.md that can be read off the files."""

import ast
import builtins
import pathlib
import re
import unittest

PACKAGE = pathlib.Path(__file__).resolve().parent.parent / "gloss"

NODES = """Module Import ImportFrom alias FunctionDef ClassDef arguments arg Lambda
Assign AugAssign If While For Return Break Continue Pass Raise Try ExceptHandler Expr
Constant List Tuple Dict Set BinOp Add Sub Mult FloorDiv Mod Pow BitAnd BitOr BitXor LShift RShift Invert
UnaryOp UAdd USub Not Compare Eq NotEq Lt LtE Gt GtE Is IsNot In NotIn BoolOp And Or IfExp
Call keyword Attribute Subscript Slice ListComp comprehension JoinedStr FormattedValue Name Load Store""".split()

OWN_NAMES = """len range enumerate zip min max sum abs sorted reversed int str bool list tuple dict set frozenset
isinstance ord repr any all divmod Exception ValueError TypeError KeyError IndexError LookupError ZeroDivisionError
ArithmeticError OverflowError RuntimeError NotImplementedError AttributeError StopIteration""".split()

OWN_METHODS = """append clear copy count endswith extend find get index insert isalnum isalpha isdigit islower isspace
isupper items join keys ljust lower lstrip partition pop remove replace reverse rfind rjust rpartition rsplit rstrip
setdefault split splitlines startswith strip update upper values zfill bit_length""".split()

PYTHON_ATTRIBUTES = {name for kind in (str, int, list, tuple, dict, set, bytes) for name in dir(kind)}

METHODS_WITH_UNDERSCORES = ("__init__", "__eq__", "__repr__", "__str__", "__len__")

WORDS_NOWHERE = re.compile(
    r"\b(type|typing|typing_extensions|enum|Enum|IntEnum|StrEnum|Flag|IntFlag|Generic|Protocol|ABC|ABCMeta|namedtuple"
    r"|NamedTuple|TypedDict|TYPE_CHECKING|abstractmethod)\b|dataclass|overload|contextmanager")


NAMES_NOWHERE = """register mro elements open input version_info with_traceback add_note attrgetter breakpoint builtins
compile copyright credits delattr dir eval exec exit gc getattr globals hasattr help id importlib license locals
methodcaller os quit setattr super vars""".split()


def files():
    return sorted(path for path in PACKAGE.rglob("*") if path.is_file() and "__pycache__" not in path.parts)


def nodes():
    for path in files():
        for node in ast.walk(ast.parse(path.read_text())):
            yield path, node


def module_of(path):
    return ".".join(path.relative_to(PACKAGE.parent).with_suffix("").parts)


def names_at_top(path):
    """The names that the file binds at its top, imports left out."""
    found = []
    for node in ast.parse(path.read_text()).body:
        if isinstance(node, (ast.FunctionDef, ast.ClassDef)):
            found.append(node.name)
        elif isinstance(node, ast.Assign):
            found.append(node.targets[0].id)
    return found


def imports_of(path):
    """Tuples (module, name) of all that the file imports."""
    rows = [node for node in ast.parse(path.read_text()).body if isinstance(node, ast.ImportFrom)]
    return [(node.module, alias.name) for node in rows for alias in node.names]


KEYWORDS = {"sorted": ("key", "reverse"), "min": ("key", "default"), "max": ("key", "default"),
            "sum": ("start",), "enumerate": ("start",), "zip": ("strict",)}

WALKED = ("zip", "enumerate", "reversed", "range")
WALKED_METHODS = ("items", "keys", "values")
WALKERS = ("list", "tuple", "dict", "sorted", "sum", "any", "all", "enumerate", "zip")


def called(node):
    """The name of Python's own or of the program that a node calls, else None."""
    return node.func.id if isinstance(node, ast.Call) and isinstance(node.func, ast.Name) else None


def called_method(node):
    return node.func.attr if isinstance(node, ast.Call) and isinstance(node.func, ast.Attribute) else None


def with_parents():
    for path in files():
        for parent in ast.walk(ast.parse(path.read_text())):
            for node in ast.iter_child_nodes(parent):
                yield path, parent, node


def walks(parent, node):
    if isinstance(parent, (ast.For, ast.comprehension)):
        return parent.iter is node
    if called(parent) in WALKERS:
        return parent.args[0] is node or called(parent) == "zip"
    if called(parent) in ("min", "max"):
        return parent.args == [node]
    return called_method(parent) == "join" and isinstance(parent.func.value, ast.Constant)


def values_and_methods():
    values = set()
    methods = set()
    for path, node in nodes():
        if isinstance(node, ast.Attribute) and isinstance(node.ctx, ast.Store):
            values.add(node.attr)
        if isinstance(node, ast.ClassDef):
            methods |= {row.name for row in node.body if isinstance(row, ast.FunctionDef)}
    return values, methods


class Language(unittest.TestCase):
    def hold(self, rule, path, node, holds):
        self.assertTrue(holds, f"{rule}: {path.name}:{getattr(node, 'lineno', 0)}")

    def test_files(self):
        self.assertTrue(files())
        for path in files():
            self.assertRegex(path.name, r"^([a-z][a-z0-9_]*|__init__|__main__)\.py$", "L1, L14")

    def test_rows_and_signs(self):
        for path in files():
            text = path.read_text(encoding="utf-8")
            self.assertEqual(re.findall(r"[^ -~\n]", text), [], f"L14: {path.name}")
            self.assertIsNone(WORDS_NOWHERE.search(text), f"L17: {path.name}")
            rows = text.splitlines()
            self.assertLessEqual(len(rows), 400, f"L10: {path.name}")
            self.assertLessEqual(max([len(row) for row in rows], default=0), 120, f"L10: {path.name}")

    def test_nodes(self):
        for path, node in nodes():
            self.hold(f"L6, L7 {type(node).__name__}", path, node, type(node).__name__ in NODES)

    def test_imports(self):
        for path, node in nodes():
            if isinstance(node, ast.Import):
                self.hold("L16", path, node, path.name == "__main__.py" and [a.name for a in node.names] == ["sys"])
            if isinstance(node, ast.ImportFrom):
                self.hold("L2", path, node, node.level == 0 and node.module.startswith("gloss."))
                self.hold("L2", path, node, "*" not in [a.name for a in node.names])

    def test_names_are_drawn_from_the_file_that_defines_them(self):
        defined = {module_of(path): names_at_top(path) for path in files()}
        for path in files():
            for module, name in imports_of(path):
                self.assertIn(name, defined.get(module, []), f"L16: {path.name}")

    def test_no_files_draw_from_one_another(self):
        left = {module_of(path): {module for module, name in imports_of(path)} for path in files()}
        while left:
            free = [module for module, drawn in left.items() if not drawn & set(left)]
            self.assertTrue(free, f"L16: {sorted(left)}")
            left = {module: drawn for module, drawn in left.items() if module not in free}

    def test_each_name_once(self):
        for path in files():
            names = names_at_top(path) + [name for module, name in imports_of(path)]
            self.assertEqual(sorted(names), sorted(set(names)), f"L15: {path.name}")

    def test_no_local_is_called_like_a_class_or_an_import(self):
        for path in files():
            top = ast.parse(path.read_text())
            taken = {name for module, name in imports_of(path)}
            taken |= {node.name for node in top.body if isinstance(node, ast.ClassDef)}
            for node in ast.walk(top):
                if isinstance(node, ast.arg):
                    self.hold(f"L15 {node.arg}", path, node, node.arg not in taken)
                if isinstance(node, ast.Name) and isinstance(node.ctx, ast.Store):
                    self.hold(f"L15 {node.id}", path, node, node.id not in taken)

    def test_names_that_are_not_used(self):
        for path, node in nodes():
            for field in ("id", "arg", "attr", "name"):
                name = getattr(node, field, None)
                self.hold(f"L17 {name}", path, node, name not in NAMES_NOWHERE)

    def test_functions(self):
        for path, node in nodes():
            if isinstance(node, ast.FunctionDef):
                self.hold("L10", path, node, node.end_lineno - node.lineno < 40)
                self.hold("L4", path, node, not (node.decorator_list or node.args.vararg or node.args.kwarg
                                                 or node.args.kwonlyargs or node.args.posonlyargs))
                self.hold("L12", path, node, node.name[0] != "_" or node.name in METHODS_WITH_UNDERSCORES)

    def test_classes(self):
        for path, node in nodes():
            if isinstance(node, ast.ClassDef):
                self.hold("L5", path, node, len(node.bases) <= 1 and not node.decorator_list and not node.keywords)
                self.hold("L5", path, node, all(isinstance(row, (ast.FunctionDef, ast.Pass)) for row in node.body))

    def test_names(self):
        for path, node in nodes():
            if isinstance(node, ast.Name):
                self.hold(f"L12 {node.id}", path, node, node.id[0] != "_")
                if isinstance(node.ctx, ast.Load):
                    known = not hasattr(builtins, node.id) or node.id in OWN_NAMES
                    self.hold(f"L8 {node.id}", path, node, known or path.name == "__main__.py")
                else:
                    self.hold(f"L15 {node.id}", path, node, not hasattr(builtins, node.id))
            if isinstance(node, ast.arg):
                self.hold(f"L15 {node.arg}", path, node, node.arg[0] != "_" and not hasattr(builtins, node.arg))

    def test_attributes(self):
        for path, node in nodes():
            if isinstance(node, ast.Attribute):
                free = node.attr in OWN_METHODS + ["add", "discard", "title", "__init__"]
                self.hold(f"L25 {node.attr}", path, node, free or node.attr not in PYTHON_ATTRIBUTES)

    def test_no_name_is_a_method_and_a_value(self):
        values, methods = values_and_methods()
        self.assertEqual(values & methods, set(), "L18")

    def test_keywords(self):
        for path, node in nodes():
            if isinstance(node, ast.Call) and (hasattr(builtins, str(called(node))) or called_method(node)):
                for keyword in node.keywords:
                    self.hold(f"L22 {keyword.arg}", path, node, keyword.arg in KEYWORDS.get(called(node), ()))

    def test_walked_at_once(self):
        for path, parent, node in with_parents():
            if called(node) in WALKED or called_method(node) in WALKED_METHODS:
                self.hold("L23", path, node, walks(parent, node))

    def test_sets_are_not_kept(self):
        for path, parent, node in with_parents():
            if called(node) in ("set", "frozenset") or isinstance(node, ast.Set):
                beside = isinstance(parent, (ast.Compare, ast.BinOp)) or called(parent) in ("sorted", "len")
                self.hold("L24", path, node, beside)

    def test_statements(self):
        for path, node in nodes():
            if isinstance(node, ast.Assign):
                self.hold("L6", path, node, len(node.targets) == 1)
            if isinstance(node, (ast.For, ast.While)):
                self.hold("L6", path, node, not node.orelse)
            if isinstance(node, ast.Try):
                self.hold("L6", path, node, not node.finalbody)
            if isinstance(node, ast.ExceptHandler):
                self.hold("L19", path, node, node.type is not None)
            if isinstance(node, ast.ListComp):
                self.hold("L7", path, node, len(node.generators) == 1 and len(node.generators[0].ifs) <= 1)

    def test_values(self):
        for path, node in nodes():
            if isinstance(node, ast.Constant):
                kind = node.value is None or isinstance(node.value, (int, str))
                self.hold("L7", path, node, kind and "%" not in str(node.value))
            if isinstance(node, ast.Compare):
                for operator, other in zip(node.ops, node.comparators):
                    if isinstance(operator, (ast.Is, ast.IsNot)):
                        single = isinstance(other, ast.Constant) and other.value in (None, True, False)
                        self.hold("L20", path, node, single)


if __name__ == "__main__":
    unittest.main()
