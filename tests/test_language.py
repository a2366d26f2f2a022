"""Whether the package keeps to those rules of LANGUAGE.md that can be seen in its files."""

import ast
import builtins
import pathlib
import re
import unittest

PACKAGE = pathlib.Path(__file__).resolve().parent.parent / "farclocks"

OWN_NAMES = set(
    "len range enumerate zip min max sum abs sorted reversed int str bool list tuple dict set frozenset isinstance "
    "ord repr any all divmod Exception ValueError TypeError KeyError IndexError LookupError ZeroDivisionError "
    "ArithmeticError OverflowError RuntimeError NotImplementedError AttributeError StopIteration".split()
)
OWN_METHODS = set(
    "append clear copy count endswith extend find get index insert isalnum isalpha isdigit islower isspace isupper "
    "items join keys ljust lower lstrip partition pop remove replace reverse rfind rjust rpartition rsplit rstrip "
    "setdefault split splitlines startswith strip update upper values zfill bit_length".split()
)
PYTHONS_OWN = {name for kind in (str, int, list, tuple, dict, set, frozenset, bytes) for name in dir(kind)}
VALUES_LET_BY = set("count index title find get join lower upper split strip copy add".split())
VALUES_OUT = set("args format".split())
TWO_UNDERSCORES = {"__init__", "__eq__", "__repr__", "__str__", "__len__"}
WORDS_OUT = re.compile(
    r"\b(type|typing|typing_extensions|enum|Enum|IntEnum|StrEnum|Flag|IntFlag|Generic|Protocol|ABC|ABCMeta|namedtuple"
    r"|NamedTuple|TypedDict|TYPE_CHECKING|abstractmethod)\b|dataclass|overload|contextmanager"
)
NAMES_OUT = set("register mro elements open input version_info with_traceback add_note".split())
NODES = (
    ast.Module, ast.ImportFrom, ast.alias, ast.FunctionDef, ast.ClassDef, ast.arguments, ast.arg, ast.Lambda,
    ast.Assign, ast.AugAssign, ast.If, ast.While, ast.For, ast.Return, ast.Break, ast.Continue, ast.Pass, ast.Raise,
    ast.Try, ast.ExceptHandler, ast.Expr, ast.Name, ast.Attribute, ast.Subscript, ast.Slice, ast.Call, ast.keyword,
    ast.Constant, ast.List, ast.Tuple, ast.Dict, ast.Set, ast.BinOp, ast.UnaryOp, ast.BoolOp, ast.Compare, ast.IfExp,
    ast.ListComp, ast.comprehension, ast.JoinedStr, ast.FormattedValue, ast.expr_context, ast.operator, ast.unaryop,
    ast.boolop, ast.cmpop,
)

WALKED = set("zip enumerate reversed range items keys values".split())
WALKERS = set("list tuple dict sorted sum any all enumerate zip min max".split())
KEYWORDS = {
    "sorted": ["key", "reverse"], "min": ["key", "default"], "max": ["key", "default"], "sum": ["start"],
    "enumerate": ["start"], "zip": ["strict"],
}


def place_of(node):
    return (node.lineno, node.col_offset, node.end_lineno, node.end_col_offset)


def files():
    return sorted(path for path in PACKAGE.rglob("*") if "__pycache__" not in path.parts)


def tree_of(path):
    return ast.parse(path.read_text(encoding="utf-8"))


def nodes(path, *kinds):
    return [node for node in ast.walk(tree_of(path)) if isinstance(node, kinds)]


def bound_at_top(tree):
    names = []
    for node in tree.body:
        if isinstance(node, (ast.FunctionDef, ast.ClassDef)):
            names.append(node.name)
        elif isinstance(node, ast.Assign):
            names.append(node.targets[0].id)
        elif isinstance(node, ast.ImportFrom):
            names.extend(alias.asname or alias.name for alias in node.names)
    return names


class Language(unittest.TestCase):
    def each(self, *kinds):
        for path in files():
            for node in nodes(path, *kinds):
                yield f"{path.name}:{getattr(node, 'lineno', 0)}", node

    def test_files(self):
        self.assertIn("__init__.py", [path.name for path in files()])
        for path in files():
            self.assertRegex(path.name, r"\A([a-z][a-z0-9_]*|__init__|__main__)\.py\Z")
            self.assertNotIn(path.stem, set(dir(builtins)) - {"__init__"}, path)

    def test_signs_words_and_size(self):
        for path in files():
            text = path.read_text(encoding="utf-8")
            self.assertRegex(text, r"\A[ -~\n]*\Z", path)
            self.assertIsNone(WORDS_OUT.search(text), path)
            rows = text.split("\n")
            self.assertLessEqual(len(rows), 400, path)
            self.assertLessEqual(max(len(row) for row in rows), 120, path)
        for place, node in self.each(ast.FunctionDef):
            self.assertLessEqual(node.end_lineno - node.lineno + 1, 40, place)

    def test_only_known_forms(self):
        for place, node in self.each(ast.AST):
            self.assertIsInstance(node, NODES, place)

    def test_top_of_a_file(self):
        for path in files():
            body = tree_of(path).body
            self.assertIsNotNone(ast.get_docstring(tree_of(path)), path)
            for node in body[1:]:
                self.assertIsInstance(node, (ast.ImportFrom, ast.FunctionDef, ast.ClassDef, ast.Assign), path)
            names = bound_at_top(tree_of(path))
            self.assertEqual(len(names), len(set(names)), path)

    def test_imports(self):
        drawn = {}
        for path in files():
            drawn[path.stem] = []
            for node in nodes(path, ast.ImportFrom):
                self.assertEqual(node.level, 0, path)
                self.assertRegex(node.module, r"\Afarclocks\.[a-z]", path)
                source = PACKAGE / (node.module.split(".")[1] + ".py")
                defined = [n.name for n in tree_of(source).body if isinstance(n, (ast.FunctionDef, ast.ClassDef))]
                defined += [n.targets[0].id for n in tree_of(source).body if isinstance(n, ast.Assign)]
                for alias in node.names:
                    self.assertIn(alias.name, defined, path)
                drawn[path.stem].append(source.stem)
        while drawn:
            free = [name for name in drawn if not [other for other in drawn[name] if other in drawn]]
            self.assertTrue(free, f"files draw from one another: {sorted(drawn)}")
            drawn = {name: others for name, others in drawn.items() if name not in free}

    def test_every_import_is_used(self):
        for path in files():
            used = [node.id for node in nodes(path, ast.Name)]
            for node in nodes(path, ast.ImportFrom):
                for alias in node.names:
                    self.assertIn(alias.asname or alias.name, used, path)

    def test_functions_and_classes(self):
        for place, node in self.each(ast.FunctionDef, ast.ClassDef):
            self.assertEqual(node.decorator_list, [], place)
        for place, node in self.each(ast.arguments):
            self.assertEqual((node.vararg, node.kwarg, node.kwonlyargs, node.posonlyargs), (None, None, [], []), place)
        for place, node in self.each(ast.ClassDef):
            self.assertLessEqual(len(node.bases), 1, place)
            for part in node.body:
                self.assertIsInstance(part, (ast.FunctionDef, ast.Pass), place)

    def test_statements(self):
        for place, node in self.each(ast.Assign):
            self.assertEqual(len(node.targets), 1, place)
        for place, node in self.each(ast.For, ast.While):
            self.assertEqual(node.orelse, [], place)
        for place, node in self.each(ast.Try):
            self.assertEqual(node.finalbody, [], place)
        for place, node in self.each(ast.ExceptHandler):
            self.assertIsNotNone(node.type, place)
        for place, node in self.each(ast.Raise):
            self.assertIsInstance(node.exc, ast.Call, place)

    def test_expressions(self):
        for place, node in self.each(ast.ListComp):
            self.assertEqual(len(node.generators), 1, place)
            self.assertLessEqual(len(node.generators[0].ifs), 1, place)
        for place, node in self.each(ast.Constant):
            self.assertIsInstance(node.value, (int, str, type(None)), place)
        for place, node in self.each(ast.operator):
            self.assertNotIsInstance(node, (ast.Div, ast.MatMult), place)
        for place, node in self.each(ast.Compare):
            for sign, right in zip(node.ops, node.comparators):
                if isinstance(sign, (ast.Is, ast.IsNot)):
                    self.assertTrue(isinstance(right, ast.Constant) and right.value in (None, True, False), place)

    def test_names(self):
        for path in files():
            kept = {node.id for node in nodes(path, ast.Name) if isinstance(node.ctx, ast.Store)}
            kept |= {node.arg for node in nodes(path, ast.arg)}
            made = {node.name for node in nodes(path, ast.FunctionDef, ast.ClassDef)}
            drawn = {alias.asname or alias.name for node in nodes(path, ast.ImportFrom) for alias in node.names}
            classes = {node.name for node in nodes(path, ast.ClassDef)}
            self.assertEqual(kept & (drawn | classes | set(dir(builtins))), set(), path)
            self.assertEqual([n for n in kept | (made - TWO_UNDERSCORES) | drawn if n.startswith("_")], [], path)
            self.assertEqual((kept | made | drawn) & NAMES_OUT, set(), path)
            used = {node.id for node in nodes(path, ast.Name) if isinstance(node.ctx, ast.Load)}
            self.assertEqual(used - kept - made - drawn - OWN_NAMES, set(), path)

    def test_methods(self):
        own = {node.name for place, node in self.each(ast.FunctionDef)}
        for place, node in self.each(ast.Call):
            if isinstance(node.func, ast.Attribute):
                self.assertIn(node.func.attr, own | OWN_METHODS, place)

    def test_methods_and_values_of_objects(self):
        methods = {part.name for place, node in self.each(ast.ClassDef) for part in node.body
                   if isinstance(part, ast.FunctionDef)} - TWO_UNDERSCORES
        values = {node.attr for place, node in self.each(ast.Attribute) if isinstance(node.ctx, ast.Store)}
        self.assertEqual(methods & values, set())
        self.assertEqual(methods & (PYTHONS_OWN - OWN_METHODS - {"add", "discard"}), set())
        self.assertEqual(values & (PYTHONS_OWN - VALUES_LET_BY | VALUES_OUT), set())
        self.assertEqual((methods | values) & NAMES_OUT, set())
        for place, node in self.each(ast.ClassDef):
            names = [part.name for part in node.body if isinstance(part, ast.FunctionDef)]
            self.assertEqual(len(names), len(set(names)), place)
        for place, node in self.each(ast.Attribute):
            if isinstance(node.ctx, ast.Store):
                self.assertIsInstance(node.value, ast.Name, place)
            self.assertIn(node.attr, methods | values | OWN_METHODS, place)

    def test_errors_that_are_taken(self):
        own = {node.name for place, node in self.each(ast.ClassDef)}
        for place, node in self.each(ast.Try):
            for handler in node.handlers:
                self.assertIsInstance(handler.type, ast.Name, place)
                if handler.type.id in own | {"KeyError", "ZeroDivisionError", "StopIteration"}:
                    continue
                self.assertEqual(handler.type.id, "ValueError", place)
                self.assertEqual(len(node.body), 1, place)
                calls = [part for part in ast.walk(node.body[0]) if isinstance(part, ast.Call)]
                self.assertEqual([call.func.id for call in calls], ["int"], place)

    def test_texts(self):
        for place, node in self.each(ast.Constant):
            if isinstance(node.value, str):
                self.assertNotIn("%", node.value, place)
        for place, node in self.each(ast.FormattedValue):
            self.assertIsInstance(node.value, ast.Name, place)
            self.assertIsNone(node.format_spec, place)

    def test_walked_at_once(self):
        allowed = set()
        for path in files():
            for node in nodes(path, ast.For, ast.comprehension):
                allowed.add((path, place_of(node.iter)))
            for node in nodes(path, ast.Call):
                if isinstance(node.func, ast.Name) and node.func.id in WALKERS and node.args:
                    allowed.add((path, place_of(node.args[0])))
                if isinstance(node.func, ast.Name) and node.func.id == "zip":
                    allowed |= {(path, place_of(part)) for part in node.args}
            for node in nodes(path, ast.Call):
                name = node.func.id if isinstance(node.func, ast.Name) else node.func.attr
                if name in WALKED:
                    self.assertIn((path, place_of(node)), allowed, f"{path.name}:{node.lineno}")

    def test_sets_and_keywords(self):
        for place, node in self.each(ast.Call):
            if isinstance(node.func, ast.Name):
                self.assertNotIn(node.func.id, ["set", "frozenset"], place)
                for keyword in node.keywords:
                    self.assertIn(keyword.arg, KEYWORDS.get(node.func.id, []), place)
        for place, node in self.each(ast.Set, ast.Pow):
            self.fail(place)


if __name__ == "__main__":
    unittest.main()
