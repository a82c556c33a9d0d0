"""The rules of the language that a look at the package's files can tell, by their numbers."""

import ast
import builtins
import pathlib
import re
import unittest

FOLDER = pathlib.Path(__file__).resolve().parent.parent / "pairtests"
FILES = sorted(path for path in FOLDER.rglob("*") if "__pycache__" not in path.parts and path.is_file())

PYTHONS_NAMES = set(vars(builtins))

OWN_NAMES = set(
    "len range enumerate zip min max sum abs sorted reversed int str bool list tuple dict set frozenset isinstance "
    "ord repr any all divmod Exception ValueError TypeError KeyError IndexError LookupError ZeroDivisionError "
    "ArithmeticError OverflowError RuntimeError NotImplementedError AttributeError StopIteration".split()
)

METHODS = set(
    "append clear copy count endswith extend find get index insert isalnum isalpha isdigit islower isspace isupper "
    "items join keys ljust lower lstrip partition pop remove replace reverse rfind rjust rpartition rsplit rstrip "
    "setdefault split splitlines startswith strip update upper values zfill bit_length __init__".split()
)

BARRED_WORDS = set(
    "type typing typing_extensions enum Enum IntEnum StrEnum Flag IntFlag Generic Protocol ABC ABCMeta namedtuple "
    "NamedTuple TypedDict TYPE_CHECKING abstractmethod".split()
)

BARRED_PARTS = ("dataclass", "overload", "contextmanager")

BARRED_NODES = (
    ast.With, ast.Match, ast.Delete, ast.Global, ast.Nonlocal, ast.Assert, ast.Yield, ast.YieldFrom, ast.Await,
    ast.AsyncFunctionDef, ast.AsyncFor, ast.AsyncWith, ast.Import, ast.SetComp, ast.DictComp, ast.GeneratorExp,
    ast.NamedExpr, ast.Starred, ast.Div, ast.MatMult, ast.AnnAssign,
)


USED_ON_THE_SPOT = ("set", "zip", "enumerate", "reversed", "range", "items", "keys", "values")


def functions_of(tree):
    return [node for node in ast.walk(tree) if isinstance(node, ast.FunctionDef)]


def methods_of(trees):
    classes = [node for tree in trees for node in ast.walk(tree) if isinstance(node, ast.ClassDef)]
    return {function.name for one in classes for function in functions_of(one)}


class Language(unittest.TestCase):
    def setUp(self):
        self.texts = {path: path.read_bytes().decode("ascii") for path in FILES}
        self.trees = {path: ast.parse(text) for path, text in self.texts.items()}

    def nodes(self, *kinds):
        return [(path, node) for path, tree in self.trees.items() for node in ast.walk(tree) if isinstance(node, kinds)]

    def test_files(self):
        self.assertIn(FOLDER / "__init__.py", FILES, "L14")
        for path in FILES:
            self.assertRegex(path.name, r"\A[a-z0-9_]+\.py\Z", "L1, L14")
            self.assertFalse(path.stem.startswith("test") or path.stem in PYTHONS_NAMES, "L14")

    def test_signs_and_sizes(self):
        for path, text in self.texts.items():
            self.assertRegex(text, r"\A[ -~\n]*\Z", f"L14 {path}")
            self.assertLessEqual(text.count("\n"), 400, f"L10 {path}")
            self.assertLessEqual(max(len(line) for line in text.split("\n")), 120, f"L10 {path}")
        for path, function in self.nodes(ast.FunctionDef):
            self.assertLessEqual(function.end_lineno - function.lineno + 1, 40, f"L10 {path} {function.name}")

    def test_words(self):
        for path, text in self.texts.items():
            self.assertEqual(set(re.findall(r"\w+", text)) & BARRED_WORDS, set(), f"L17 {path}")
            self.assertEqual([part for part in BARRED_PARTS if part in text], [], f"L17 {path}")

    def test_statements_and_expressions(self):
        for path, node in self.nodes(*BARRED_NODES):
            self.fail(f"L2, L6, L7 {path}:{node.lineno}")
        for path, node in self.nodes(ast.ListComp):
            self.assertEqual(len(node.generators), 1, f"L7 {path}:{node.lineno}")
            self.assertLessEqual(len(node.generators[0].ifs), 1, f"L7 {path}:{node.lineno}")
        for path, node in self.nodes(ast.For, ast.While):
            self.assertEqual(node.orelse, [], f"L6 {path}:{node.lineno}")
        for path, node in self.nodes(ast.Assign):
            self.assertEqual(len(node.targets), 1, f"L6 {path}:{node.lineno}")
        for path, node in self.nodes(ast.Constant):
            self.assertNotIsInstance(node.value, (float, complex, bytes), f"L7 {path}:{node.lineno}")
            self.assertFalse(isinstance(node.value, str) and "%" in node.value, f"L27 {path}:{node.lineno}")

    def test_definitions(self):
        for path, node in self.nodes(ast.FunctionDef, ast.ClassDef):
            self.assertEqual(node.decorator_list, [], f"L4, L5 {path}:{node.lineno}")
        for path, node in self.nodes(ast.arguments):
            self.assertEqual((node.vararg, node.kwarg, node.kwonlyargs, node.posonlyargs), (None, None, [], []), "L4")
        for path, node in self.nodes(ast.ClassDef):
            self.assertLessEqual(len(node.bases), 1, f"L5 {path}:{node.lineno}")
            self.assertIn(node, self.trees[path].body, f"L15 {path}:{node.lineno}")

    def test_the_top_of_a_file(self):
        for path, tree in self.trees.items():
            for node in tree.body[1:]:
                kinds = (ast.ImportFrom, ast.FunctionDef, ast.ClassDef, ast.Assign)
                self.assertIsInstance(node, kinds, f"L3 {path}:{node.lineno}")

    def test_imports(self):
        for path, node in self.nodes(ast.ImportFrom):
            place = f"L2, L16 {path}:{node.lineno}"
            self.assertEqual(node.level, 0, place)
            self.assertRegex(node.module, r"\Apairtests\.\w+\Z", place)
            source = ast.parse((FOLDER / (node.module.split(".")[1] + ".py")).read_text(encoding="ascii"))
            defined = {one.name for one in source.body if isinstance(one, (ast.FunctionDef, ast.ClassDef))}
            defined |= {target.id for one in source.body if isinstance(one, ast.Assign) for target in one.targets}
            self.assertLessEqual({one.name for one in node.names}, defined, place)

    def test_no_two_files_draw_from_one_another(self):
        drawn = {}
        for path, node in self.nodes(ast.ImportFrom):
            drawn.setdefault(path.stem, set()).add(node.module.split(".")[1])
        for stem in drawn:
            reached = set()
            ahead = set(drawn[stem])
            while ahead:
                reached |= ahead
                ahead = {further for one in ahead for further in drawn.get(one, ())} - reached
            self.assertNotIn(stem, reached, f"L16 {stem}")

    def test_an_expression_by_itself_is_a_call(self):
        for path, tree in self.trees.items():
            for node in ast.walk(tree):
                if isinstance(node, ast.Expr) and node is not tree.body[0]:
                    self.assertIsInstance(node.value, ast.Call, f"L6 {path}:{node.lineno}")

    def test_keywords_of_pythons_own(self):
        allowed = {"sorted": {"key", "reverse"}, "min": {"key", "default"}, "max": {"key", "default"}}
        allowed |= {"sum": {"start"}, "enumerate": {"start"}, "zip": {"strict"}}
        for path, node in self.nodes(ast.Call):
            name = getattr(node.func, "id", getattr(node.func, "attr", ""))
            if name in PYTHONS_NAMES | METHODS:
                given = {keyword.arg for keyword in node.keywords}
                self.assertLessEqual(given, allowed.get(name, set()), f"L22 {path}:{node.lineno}")

    def test_sets_and_views_are_used_on_the_spot(self):
        for path, tree in self.trees.items():
            used = {id(child): node for node in ast.walk(tree) for child in ast.iter_child_nodes(node)}
            for node in ast.walk(tree):
                if isinstance(node, ast.Call):
                    name = getattr(node.func, "id", getattr(node.func, "attr", ""))
                    kept = isinstance(used[id(node)], (ast.Assign, ast.Return, ast.Tuple, ast.List, ast.Attribute))
                    self.assertFalse(name in USED_ON_THE_SPOT and kept, f"L23, L24 {path}:{node.lineno}")

    def test_names(self):
        for path, node in self.nodes(ast.Name):
            place = f"{path}:{node.lineno} {node.id}"
            self.assertRegex(node.id, r"\A[A-Za-z]\w*\Z", f"L12 {place}")
            if node.id in PYTHONS_NAMES:
                self.assertIn(node.id, OWN_NAMES, f"L8 {place}")
                self.assertIsInstance(node.ctx, ast.Load, f"L8, L15 {place}")
        for path, node in self.nodes(ast.arg):
            self.assertNotIn(node.arg, PYTHONS_NAMES, f"L15 {path}:{node.lineno} {node.arg}")

    def test_no_local_is_called_like_a_class_or_an_import(self):
        for path, tree in self.trees.items():
            taken = {one.name for one in tree.body if isinstance(one, ast.ClassDef)}
            taken |= {name.name for one in tree.body if isinstance(one, ast.ImportFrom) for name in one.names}
            for function in functions_of(tree):
                inside = list(ast.walk(function))
                bound = {one.arg for one in inside if isinstance(one, ast.arg)}
                bound |= {one.id for one in inside if isinstance(one, ast.Name) and isinstance(one.ctx, ast.Store)}
                self.assertEqual(bound & taken, set(), f"L15 {path} {function.name}")

    def test_methods_and_values_of_objects(self):
        methods = methods_of(self.trees.values())
        values = {node.attr for path, node in self.nodes(ast.Attribute) if isinstance(node.ctx, ast.Store)}
        taken = {name for kind in (str, int, list, dict, set, bytes, tuple) for name in dir(kind)}
        self.assertEqual(methods & values, set(), "L18")
        self.assertEqual((methods | values) & taken - {"__init__"}, set(), "L26")

    def test_called_methods(self):
        known = METHODS | methods_of(self.trees.values())
        for path, node in self.nodes(ast.Call):
            if isinstance(node.func, ast.Attribute):
                self.assertIn(node.func.attr, known, f"L25 {path}:{node.lineno}")

    def test_is_stands_beside_none_true_and_false(self):
        for path, node in self.nodes(ast.Compare):
            for sign, other in zip(node.ops, node.comparators):
                if isinstance(sign, (ast.Is, ast.IsNot)):
                    self.assertIn(getattr(other, "value", 0), (None, True, False), f"L20 {path}:{node.lineno}")


if __name__ == "__main__":
    unittest.main()
