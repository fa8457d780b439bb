"""The package's files keep to the small part of the language that the program is written in."""

import ast
import builtins
import pathlib
import re
import unittest

PACKAGE = pathlib.Path(__file__).resolve().parent.parent / "lampwatch"

OWN_NAMES = set(
    "len range enumerate zip min max sum abs sorted reversed int str bool list tuple dict set frozenset isinstance "
    "ord repr any all divmod Exception ValueError TypeError KeyError IndexError LookupError ZeroDivisionError "
    "ArithmeticError OverflowError RuntimeError NotImplementedError StopIteration AttributeError".split()
)
OWN_METHODS = set(
    "append clear copy count endswith extend find get index insert isalnum isalpha isdigit islower isspace isupper "
    "items join keys ljust lower lstrip partition pop remove replace reverse rfind rjust rpartition rsplit rstrip "
    "setdefault split splitlines startswith strip update upper values zfill bit_length".split()
)
ALLOWED_NODES = set(
    "Module FunctionDef ClassDef ImportFrom alias arguments arg Assign AugAssign If While For Return Break Continue "
    "Pass Raise Try ExceptHandler Expr Constant List Tuple Dict BinOp UnaryOp BoolOp Compare IfExp Call Attribute "
    "Subscript Slice ListComp comprehension JoinedStr FormattedValue Lambda Name Load Store keyword "
    "Add Sub Mult FloorDiv Mod Pow BitAnd BitOr BitXor LShift RShift Invert Not USub And Or "
    "Eq NotEq Lt LtE Gt GtE Is IsNot In NotIn".split()
)
WORDS_OUT = re.compile(
    r"\b(type|typing|typing_extensions|enum|Enum|IntEnum|StrEnum|Flag|IntFlag|Generic|Protocol|ABC|ABCMeta|namedtuple"
    r"|NamedTuple|TypedDict|TYPE_CHECKING|abstractmethod)\b|dataclass|overload|contextmanager"
)


def sources():
    return {path.name: path.read_text(encoding="utf-8") for path in sorted(PACKAGE.glob("*.py"))}


def nodes():
    for name, text in sources().items():
        for node in ast.walk(ast.parse(text)):
            yield name, node


def bound_names(tree):
    names = set()
    for node in ast.walk(tree):
        if isinstance(node, (ast.FunctionDef, ast.ClassDef)):
            names.add(node.name)
        elif isinstance(node, ast.arg):
            names.add(node.arg)
        elif isinstance(node, ast.alias):
            names.add(node.asname or node.name)
        elif isinstance(node, ast.Name) and isinstance(node.ctx, ast.Store):
            names.add(node.id)
        elif isinstance(node, ast.ExceptHandler) and node.name:
            names.add(node.name)
    return names


def drawn_modules(tree):
    return {node.module.rpartition(".")[2] for node in ast.walk(tree) if isinstance(node, ast.ImportFrom)}


def local_names(function):
    """The parameters and locals of a function."""
    names = {node.arg for node in ast.walk(function) if isinstance(node, ast.arg)}
    stored = [node for node in ast.walk(function) if isinstance(node, ast.Name) and isinstance(node.ctx, ast.Store)]
    return names | {node.id for node in stored}


def top_names(tree):
    """The names bound at a file's top, in order."""
    names = []
    for node in tree.body:
        if isinstance(node, (ast.FunctionDef, ast.ClassDef)):
            names.append(node.name)
        elif isinstance(node, ast.ImportFrom):
            names.extend(drawn.asname or drawn.name for drawn in node.names)
        elif isinstance(node, ast.Assign):
            names.extend(target.id for target in node.targets)
    return names


class TestForm(unittest.TestCase):
    def test_the_folder_holds_plain_files_alone(self):
        held = [path.name for path in PACKAGE.iterdir() if path.name != "__pycache__"]
        self.assertIn("__init__.py", held)
        for name in held:
            self.assertRegex(name, r"\A(__init__|__main__|[a-z][a-z0-9_]*)\.py\Z")

    def test_signs_and_sizes(self):
        for name, text in sources().items():
            rows = text.split("\n")
            self.assertRegex(text, r"\A[ -~\n]*\Z", name)
            self.assertLessEqual(len(rows), 400, name)
            self.assertLessEqual(max(len(row) for row in rows), 120, name)
            self.assertIsNone(WORDS_OUT.search(text), name)

    def test_functions_have_at_most_forty_lines_and_plain_parameters(self):
        for name, node in nodes():
            if isinstance(node, ast.FunctionDef):
                self.assertLessEqual(node.end_lineno - node.lineno + 1, 40, (name, node.name))
                self.assertEqual(node.decorator_list, [], (name, node.name))
                self.assertIsNone(node.args.vararg or node.args.kwarg, (name, node.name))
                self.assertEqual(node.args.kwonlyargs + node.args.posonlyargs, [], (name, node.name))

    def test_the_kinds_of_statement_and_expression(self):
        for name, node in nodes():
            self.assertIn(node.__class__.__name__, ALLOWED_NODES, (name, getattr(node, "lineno", None)))
            if isinstance(node, ast.Constant):
                self.assertIn(type(node.value), (int, str, bool, type(None)), (name, node.lineno))
            if isinstance(node, (ast.For, ast.While)):
                self.assertEqual(node.orelse, [], (name, node.lineno))

    def test_only_the_packages_own_modules_are_drawn_from(self):
        for name, node in nodes():
            if isinstance(node, ast.ImportFrom):
                self.assertEqual(node.level, 0, (name, node.lineno))
                self.assertRegex(node.module, r"\Alampwatch\.[a-z]+\Z", (name, node.lineno))
                self.assertNotIn("*", [drawn.name for drawn in node.names], (name, node.lineno))

    def test_names_are_drawn_from_the_file_that_defines_them(self):
        trees = {name[:-3]: ast.parse(text) for name, text in sources().items()}
        for name, node in nodes():
            if isinstance(node, ast.ImportFrom):
                source = trees[node.module.rpartition(".")[2]]
                defined = top_names(ast.Module([row for row in source.body if not isinstance(row, ast.ImportFrom)], []))
                for drawn in node.names:
                    self.assertIn(drawn.name, defined, (name, node.lineno))

    def test_no_two_files_draw_from_one_another(self):
        left = {name[:-3]: drawn_modules(ast.parse(text)) for name, text in sources().items()}
        while left:
            free = [name for name, drawn in left.items() if not drawn & set(left)]
            self.assertNotEqual(free, [], left)
            for name in free:
                left.pop(name)

    def test_each_name_is_bound_once_at_the_top_and_no_local_is_called_like_another_thing(self):
        for name, text in sources().items():
            tree = ast.parse(text)
            top = top_names(tree)
            self.assertEqual(len(top), len(set(top)), name)
            for node in ast.walk(tree):
                if isinstance(node, ast.FunctionDef):
                    self.assertEqual(local_names(node) & (set(top) | set(dir(builtins))), set(), (name, node.name))

    def test_texts_hold_no_percent_sign_and_no_other_escape(self):
        for name, node in nodes():
            if isinstance(node, ast.Constant) and isinstance(node.value, str):
                self.assertNotIn("%", node.value, (name, node.lineno))
                self.assertRegex(node.value, r"\A[ -~\n\t]*\Z", (name, node.lineno))

    def test_is_stands_beside_none_true_and_false_alone(self):
        for name, node in nodes():
            if isinstance(node, ast.Compare):
                for sign, right in zip(node.ops, node.comparators):
                    if isinstance(sign, (ast.Is, ast.IsNot)):
                        self.assertIsInstance(right, ast.Constant, (name, node.lineno))
                        self.assertIn(right.value, (None, True, False), (name, node.lineno))

    def test_errors_are_taken_by_the_programs_own_names(self):
        own = set(top_names(ast.parse(sources()["errors.py"])))
        for name, node in nodes():
            if isinstance(node, ast.ExceptHandler):
                kinds = node.type.elts if isinstance(node.type, ast.Tuple) else [node.type]
                self.assertLessEqual({kind.id for kind in kinds}, own, (name, node.lineno))

    def test_only_listed_names_of_pythons_own_are_used(self):
        for name, text in sources().items():
            tree = ast.parse(text)
            bound = bound_names(tree)
            self.assertEqual(bound & OWN_NAMES, set(), name)
            for word in bound:
                self.assertRegex(word, r"\A([A-Za-z][A-Za-z0-9_]*|__init__|__eq__|__repr__|__str__|__len__)\Z", name)
            for node in ast.walk(tree):
                if isinstance(node, ast.Name):
                    self.assertIn(node.id, bound | OWN_NAMES, (name, node.lineno))
                if isinstance(node, ast.Attribute):
                    self.assertIn(node.attr, OWN_METHODS, (name, node.lineno))


if __name__ == "__main__":
    unittest.main()
