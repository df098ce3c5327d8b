"""Holds the package against the rules of ../shared/LANGUAGE.md that can be seen in its files."""

import ast
import builtins
import pathlib
import re
import unittest

PACKAGE = pathlib.Path(__file__).resolve().parent.parent / "hydrahouse"
FILES = sorted(PACKAGE.rglob("*.py"))

NODES = set(
    "Module FunctionDef ClassDef arguments arg Return Assign AugAssign For While If Raise Try ExceptHandler Pass Break "
    "Continue Expr ImportFrom alias Name Load Store Constant List Tuple Dict Set BinOp UnaryOp BoolOp Compare IfExp "
    "Call keyword Attribute Subscript Slice ListComp comprehension JoinedStr FormattedValue Lambda Add Sub Mult "
    "FloorDiv Mod Pow LShift RShift BitOr BitXor BitAnd Invert Not USub UAdd And Or Eq NotEq Lt LtE Gt GtE Is IsNot "
    "In NotIn".split()
)
OWN_NAMES = set(
    "len range enumerate zip min max sum abs sorted reversed int str bool list tuple dict set frozenset isinstance "
    "ord repr any all divmod Exception ValueError TypeError KeyError IndexError LookupError ZeroDivisionError "
    "ArithmeticError OverflowError RuntimeError NotImplementedError AttributeError StopIteration".split()
)
OWN_METHODS = set(
    "append clear copy count endswith extend find get index insert isalnum isalpha isdigit islower isspace isupper "
    "items join keys ljust lower lstrip partition pop remove replace reverse rfind rjust rpartition rsplit rstrip "
    "setdefault split splitlines startswith strip update upper values zfill bit_length".split()
)
FREE_VALUES = set("count index title find get join lower upper split strip copy add".split())
WALKED = "zip enumerate reversed range items keys values".split()
WALKING = "list tuple dict sorted sum any all enumerate zip min max".split()
TWO_UNDERSCORES = ["__init__", "__eq__", "__repr__", "__str__", "__len__"]
WORDS = (
    "type typing typing_extensions enum Enum IntEnum StrEnum Flag IntFlag Generic Protocol ABC ABCMeta namedtuple "
    "NamedTuple TypedDict TYPE_CHECKING abstractmethod"
).split()
UNUSED = "register mro elements open input version_info with_traceback add_note format format_map".split()


def read(path):
    return path.read_bytes().decode("utf-8")


def nodes():
    for path in FILES:
        for node in ast.walk(ast.parse(read(path))):
            yield f"{path.name}:{getattr(node, 'lineno', 0)}", node


def bound_names():
    for place, node in nodes():
        if isinstance(node, (ast.FunctionDef, ast.ClassDef)):
            yield place, node.name
        elif isinstance(node, ast.arg):
            yield place, node.arg
        elif isinstance(node, ast.Name) and isinstance(node.ctx, ast.Store):
            yield place, node.id
        elif isinstance(node, ast.ExceptHandler) and node.name:
            yield place, node.name


def is_plain(node, functions, outmost):
    # a plain value; a list or a dict only as the outmost
    if isinstance(node, ast.Dict) and outmost:
        return all(is_plain(part, functions, False) for part in node.keys + node.values)
    if isinstance(node, ast.Tuple) or isinstance(node, ast.List) and outmost:
        return all(is_plain(part, functions, False) for part in node.elts)
    return isinstance(node, ast.Constant) or isinstance(node, ast.Name) and node.id in functions


class Language(unittest.TestCase):
    def test_files(self):  # L1, L14
        self.assertIn(PACKAGE / "__init__.py", FILES)
        for path in PACKAGE.rglob("*"):
            if "__pycache__" not in path.parts and path.is_file():
                self.assertRegex(path.name, r"\A([a-z][a-z0-9_]*|__init__|__main__)\.py\Z")
                self.assertNotIn(path.stem, vars(builtins), path.name)

    def test_signs_and_size(self):  # L10, L14
        for path in FILES:
            lines = read(path).split("\n")
            self.assertLessEqual(len(lines), 400, path.name)
            for number, line in enumerate(lines, start=1):
                self.assertRegex(line, r"\A[ -~]{0,120}\Z", f"{path.name}:{number}")
        for place, node in nodes():
            if isinstance(node, ast.FunctionDef):
                self.assertLess(node.end_lineno - node.lineno, 40, place)

    def test_words(self):  # L17
        for path in FILES:
            found = re.findall(r"\b(?:" + "|".join(WORDS) + r")\b|dataclass|overload|contextmanager", read(path))
            self.assertEqual(found, [], path.name)

    def test_nodes(self):  # L4 to L7
        for place, node in nodes():
            self.assertIn(node.__class__.__name__, NODES, place)
            if isinstance(node, (ast.FunctionDef, ast.ClassDef)):
                self.assertEqual(node.decorator_list, [], place)
            if isinstance(node, ast.arguments):
                self.assertFalse(node.vararg or node.kwarg or node.kwonlyargs or node.posonlyargs, place)
            if isinstance(node, ast.Assign):
                self.assertEqual(len(node.targets), 1, place)
            if isinstance(node, (ast.For, ast.While)):
                self.assertEqual(node.orelse, [], place)
            if isinstance(node, ast.Try):
                self.assertEqual(node.finalbody, [], place)
            if isinstance(node, ast.Constant):
                self.assertIsInstance(node.value, (int, str, bool, type(None)), place)

    def test_classes(self):  # L5, L18, L21, L26
        methods = set()
        values = set()
        for place, node in nodes():
            if isinstance(node, ast.ClassDef):
                self.assertLessEqual(len(node.bases), 1, place)
                self.assertEqual(node.keywords, [], place)
                own = [row.name for row in node.body if isinstance(row, ast.FunctionDef)]
                self.assertEqual(len(own), len(set(own)), place)
                self.assertTrue(own or [row.__class__ for row in node.body] == [ast.Pass], place)
                self.assertTrue(all(isinstance(row, (ast.FunctionDef, ast.Pass)) for row in node.body), place)
                methods |= set(own) - set(TWO_UNDERSCORES)
            if isinstance(node, ast.Attribute) and isinstance(node.ctx, ast.Store):
                values.add(node.attr)
            if isinstance(node, (ast.FunctionDef, ast.arg)):
                self.assertIsNone(getattr(node, "returns", None) or getattr(node, "annotation", None), place)
        self.assertEqual(methods & values, set())
        pythons_own = set(name for kind in (str, int, list, tuple, dict, set, bytes) for name in dir(kind))
        self.assertEqual(values & pythons_own - FREE_VALUES, set())
        self.assertEqual(methods & pythons_own - OWN_METHODS - {"add", "discard"}, set())

    def test_walked_at_once(self):  # L23
        for path in FILES:
            tree = ast.parse(read(path))
            on_the_spot = []
            for node in ast.walk(tree):
                if isinstance(node, (ast.For, ast.comprehension)):
                    on_the_spot.append(node.iter)
                if isinstance(node, ast.Call) and getattr(node.func, "id", "") in WALKING:
                    on_the_spot += node.args[:1]
                if isinstance(node, ast.Call) and getattr(node.func, "attr", "") == "join":
                    on_the_spot += node.args
            for node in ast.walk(tree):
                if isinstance(node, ast.Call):
                    name = getattr(node.func, "id", "") or getattr(node.func, "attr", "")
                    if name in WALKED:
                        self.assertIn(node, on_the_spot, f"{path.name}:{node.lineno}")

    def test_imports(self):  # L2, L16
        for path in FILES:
            for node in ast.parse(read(path)).body:
                if isinstance(node, ast.ImportFrom):
                    self.assertEqual(node.level, 0, path.name)
                    self.assertRegex(node.module, r"\Ahydrahouse\.[a-z]+\Z", path.name)
                    source = read(PACKAGE / (node.module.split(".")[1] + ".py"))
                    for alias in node.names:
                        self.assertRegex(source, rf"(?m)^((def|class) {alias.name}\b|{alias.name} = )", path.name)

    def test_names(self):  # L8, L12, L15, L17, L25
        defined = set(name for place, name in bound_names())
        for place, name in bound_names():
            if name not in TWO_UNDERSCORES:
                self.assertRegex(name, r"\A[A-Za-z][A-Za-z0-9_]*\Z", place)
                self.assertNotIn(name, vars(builtins), f"{place}: {name}")
                self.assertNotIn(name, UNUSED, place)
        for place, node in nodes():
            if isinstance(node, ast.Name) and node.id in vars(builtins):
                self.assertIn(node.id, OWN_NAMES, place)
            if isinstance(node, ast.Call) and isinstance(node.func, ast.Attribute):
                self.assertIn(node.func.attr, OWN_METHODS | defined, place)
            if isinstance(node, ast.Attribute):
                self.assertNotIn(node.attr, UNUSED, place)

    def test_no_local_is_called_like_an_import_or_a_class(self):  # L15
        for path in FILES:
            tree = ast.parse(read(path))
            taken = [alias.name for node in tree.body if isinstance(node, ast.ImportFrom) for alias in node.names]
            taken += [node.name for node in tree.body if isinstance(node, ast.ClassDef)]
            for node in ast.walk(tree):
                if isinstance(node, ast.arg):
                    self.assertNotIn(node.arg, taken, f"{path.name}:{node.lineno}")
                if isinstance(node, ast.Name) and isinstance(node.ctx, ast.Store):
                    self.assertNotIn(node.id, taken, f"{path.name}:{node.lineno}")

    def test_no_two_files_draw_from_one_another(self):  # L16
        drawn = {}
        for path in FILES:
            found = [node.module for node in ast.parse(read(path)).body if isinstance(node, ast.ImportFrom)]
            drawn["hydrahouse." + path.stem] = found
        settled = []
        for step in FILES:
            settled += [name for name in drawn if name not in settled and set(drawn[name]) <= set(settled)]
        self.assertEqual(sorted(settled), sorted(drawn))

    def test_tops(self):  # L3, L15
        for path in FILES:
            functions = []
            bound = []
            for place, row in enumerate(ast.parse(read(path)).body):
                if isinstance(row, ast.FunctionDef):
                    functions.append(row.name)
                    bound.append(row.name)
                elif isinstance(row, ast.ClassDef):
                    bound.append(row.name)
                elif isinstance(row, ast.ImportFrom):
                    bound += [alias.name for alias in row.names]
                elif isinstance(row, ast.Assign):
                    self.assertTrue(is_plain(row.value, functions, True), f"{path.name}:{row.lineno}")
                    bound += [target.id for target in row.targets]
                else:
                    self.assertTrue(place == 0 and isinstance(row.value, ast.Constant), f"{path.name}:{row.lineno}")
            self.assertEqual(len(bound), len(set(bound)), path.name)

    def test_texts_with_braces(self):  # L7
        for place, node in nodes():
            if isinstance(node, ast.FormattedValue):
                self.assertIsInstance(node.value, ast.Name, place)
                self.assertIsNone(node.format_spec, place)

    def test_powers_and_texts(self):  # L27
        for place, node in nodes():
            if isinstance(node, ast.BinOp) and isinstance(node.op, ast.Pow):
                self.assertIsInstance(node.right, ast.Constant, place)
                self.assertIn(node.right.value, range(65), place)
            if isinstance(node, ast.Constant) and isinstance(node.value, str):
                self.assertNotIn("%", node.value, place)

    def test_is_beside_plain_values_alone(self):  # L20
        for place, node in nodes():
            if isinstance(node, ast.Compare) and isinstance(node.ops[0], (ast.Is, ast.IsNot)):
                self.assertIsInstance(node.comparators[0], ast.Constant, place)
                self.assertIn(node.comparators[0].value, (None, True, False), place)


if __name__ == "__main__":
    unittest.main()
