"""The rules of the language that can be seen in the files of the package one by one."""

import ast
import builtins
import functools
import pathlib
import re
import unittest
import warnings

FOLDER = pathlib.Path(__file__).resolve().parent.parent / "otherfirst"
BUILTINS = set("""
    len range enumerate zip min max sum abs sorted reversed int str bool bytes list tuple dict set frozenset isinstance
    ord repr any all divmod ValueError
""".split())
METHODS = set("""
    append clear copy count endswith extend find get index insert isalnum isalpha isdigit islower isspace isupper items
    join keys ljust lower lstrip partition pop remove replace reverse rfind rjust rpartition rsplit rstrip setdefault
    split splitlines startswith strip update upper values zfill bit_length isascii
""".split())
BARRED = set("""
    register mro elements open input law version_info with_traceback add_note type typing typing_extensions enum Enum
    IntEnum StrEnum Flag IntFlag Generic Protocol ABC ABCMeta namedtuple NamedTuple TypedDict TYPE_CHECKING
    abstractmethod attrgetter breakpoint builtins compile copyright credits delattr dir eval exec exit gc globals help
    id importlib license locals methodcaller os quit super vars sys _wall _WallAttr
""".split())
LIBRARY = {"math": {"gcd", "lcm", "isqrt", "comb", "perm", "factorial"}, "heapq": {"heappush", "heappop"}}
NODES = (
    ast.Module, ast.ImportFrom, ast.alias, ast.FunctionDef, ast.ClassDef, ast.arguments, ast.arg, ast.Assign,
    ast.AugAssign, ast.Expr, ast.Return, ast.If, ast.While, ast.For, ast.Raise, ast.Delete, ast.Break, ast.Continue,
    ast.Pass, ast.Name, ast.Attribute, ast.Subscript, ast.Slice, ast.Starred, ast.Constant, ast.List, ast.Tuple,
    ast.Dict, ast.Set, ast.ListComp, ast.SetComp, ast.DictComp, ast.comprehension, ast.BoolOp, ast.BinOp, ast.UnaryOp,
    ast.Compare, ast.IfExp, ast.Call, ast.keyword, ast.JoinedStr, ast.FormattedValue, ast.expr_context, ast.boolop,
    ast.operator, ast.unaryop, ast.cmpop, ast.Lambda,
)
MAGIC = {"__init__", "__eq__", "__len__"}


@functools.cache
def trees():
    return {path.stem: ast.parse(path.read_text()) for path in sorted(FOLDER.glob("*.py"))}


def defined(tree):
    """The names that a file binds at module level, imports aside."""
    names = [node.name for node in tree.body if isinstance(node, (ast.FunctionDef, ast.ClassDef))]
    return names + [node.targets[0].id for node in tree.body if isinstance(node, ast.Assign)]


def imported(tree):
    """Tuples of a module and a name."""
    return [(node.module, alias.name) for node in tree.body if isinstance(node, ast.ImportFrom) for alias in node.names]


def every(kind):
    return [(name, node) for name, tree in trees().items() for node in ast.walk(tree) if isinstance(node, kind)]


class FilesTest(unittest.TestCase):
    def test_the_folder_has_plain_files_alone(self):
        for path in FOLDER.iterdir():
            if path.name != "__pycache__":
                self.assertRegex(path.name, r"^[a-z_]+\.py$")
                self.assertNotIn(path.stem, dir(builtins))
        self.assertTrue((FOLDER / "__init__.py").is_file())
        self.assertLessEqual(len(trees()), 100)

    def test_lines(self):
        for path in FOLDER.glob("*.py"):
            text = path.read_text()
            self.assertRegex(text, r"\A[ -~\n]*\n\Z", path.name)
            lines = text.split("\n")
            self.assertLessEqual(len(lines) - 1, 399, path.name)
            self.assertLessEqual(max(len(line) for line in lines), 120, path.name)
            with warnings.catch_warnings():
                warnings.simplefilter("error")
                compile(text, path.name, "exec")

    def test_functions_are_small(self):
        for name, node in every(ast.FunctionDef):
            self.assertLessEqual(node.end_lineno - node.lineno + 1, 40, f"{name}.{node.name}")


class StatementsTest(unittest.TestCase):
    def test_plain_parts_alone(self):
        for name, node in every(ast.AST):
            self.assertIsInstance(node, NODES, f"{name} {getattr(node, 'lineno', '')}")

    def test_module_level(self):
        for name, tree in trees().items():
            first = tree.body[0]
            self.assertTrue(isinstance(first, ast.Expr) and isinstance(first.value.value, str), name)
            for node in tree.body[1:]:
                self.assertIsInstance(node, (ast.ImportFrom, ast.FunctionDef, ast.ClassDef, ast.Assign), name)
                if isinstance(node, ast.Assign):
                    parts = node.value.keys + node.value.values if isinstance(node.value, ast.Dict) else [node.value]
                    for part in parts:
                        self.assertIsInstance(part, ast.Constant, name)

    def test_lambdas_stand_on_lines_of_their_own(self):
        places = [(name, node.lineno) for name, node in every(ast.Lambda)]
        self.assertEqual(len(places), len(set(places)))

    def test_no_decorators_and_no_annotations(self):
        for name, node in every((ast.FunctionDef, ast.ClassDef)):
            self.assertEqual(node.decorator_list, [], name)
        for name, node in every(ast.FunctionDef):
            self.assertIsNone(node.returns, name)
        for name, node in every(ast.arg):
            self.assertIsNone(node.annotation, name)

    def test_is_stands_beside_none_alone(self):
        for name, node in every(ast.Compare):
            if any(isinstance(sign, (ast.Is, ast.IsNot)) for sign in node.ops):
                self.assertTrue(isinstance(node.comparators[0], ast.Constant), f"{name} {node.lineno}")
                self.assertIsNone(node.comparators[0].value)

    def test_no_floats_no_powers_and_no_divisions(self):
        for name, node in every(ast.BinOp):
            self.assertNotIsInstance(node.op, (ast.Div, ast.Pow, ast.MatMult), f"{name} {node.lineno}")
        for name, node in every(ast.Constant):
            self.assertNotIsInstance(node.value, (float, complex, bytes), name)

    def test_strings(self):
        for name, node in every(ast.Constant):
            if isinstance(node.value, str):
                self.assertNotIn("%", node.value, name)

    def test_sets_stand_in_sorted_and_len_alone(self):
        for name, tree in trees().items():
            kept = [call.args[0] for call in ast.walk(tree) if isinstance(call, ast.Call) and call.args
                    and getattr(call.func, "id", "") in ("sorted", "len")]
            for node in ast.walk(tree):
                called = isinstance(node, ast.Call) and getattr(node.func, "id", "") == "set"
                if called or isinstance(node, (ast.Set, ast.SetComp)):
                    self.assertIn(node, kept, f"{name} {node.lineno}")

    def test_raised_errors_are_made_on_the_spot(self):
        for name, node in every(ast.Raise):
            self.assertIsInstance(node.exc, ast.Call, name)
            self.assertIn(("otherfirst.errors", node.exc.func.id), imported(trees()[name]))


class NamesTest(unittest.TestCase):
    def test_imports(self):
        for name, tree in trees().items():
            for module, what in imported(tree):
                if module in LIBRARY:
                    self.assertIn(what, LIBRARY[module])
                else:
                    self.assertIn(what, defined(trees()[module.removeprefix("otherfirst.")]), name)
            for node in ast.walk(tree):
                if isinstance(node, ast.ImportFrom):
                    self.assertTrue(node in tree.body and node.level == 0, name)
                    self.assertTrue(all(alias.asname is None and alias.name != "*" for alias in node.names), name)

    def test_imports_are_used(self):
        for name, tree in trees().items():
            used = [node.id for node in ast.walk(tree) if isinstance(node, ast.Name)]
            for _, what in imported(tree):
                self.assertIn(what, used, name)

    def test_no_files_import_from_each_other(self):
        behind = {name: {module.removeprefix("otherfirst.") for module, _ in imported(tree) if module not in LIBRARY}
                  for name, tree in trees().items()}
        while behind:
            free = [name for name in behind if not behind[name] & set(behind)]
            self.assertTrue(free, f"a circle in {sorted(behind)}")
            behind = {name: behind[name] for name in behind if name not in free}

    def test_names_are_bound_once(self):
        for name, tree in trees().items():
            names = defined(tree) + [what for _, what in imported(tree)]
            self.assertEqual(len(names), len(set(names)), name)
        for name, node in every(ast.ClassDef):
            methods = [part.name for part in node.body if isinstance(part, ast.FunctionDef)]
            self.assertEqual(len(methods), len(set(methods)), node.name)

    def test_local_names(self):
        for name, tree in trees().items():
            taken = set(defined(tree)) | {what for _, what in imported(tree)} | set(dir(builtins))
            for node in ast.walk(tree):
                if isinstance(node, ast.arg):
                    self.assertNotIn(node.arg, taken, f"{name} {node.lineno}")
                if isinstance(node, ast.Name) and isinstance(node.ctx, ast.Store) and node.id not in defined(tree):
                    self.assertNotIn(node.id, taken, f"{name} {node.lineno}")
            for what in defined(tree):
                self.assertNotIn(what, dir(builtins), name)

    def test_functions_are_not_assigned(self):
        for name, tree in trees().items():
            functions = [node for node in ast.walk(tree) if isinstance(node, ast.FunctionDef)]
            for function in functions:
                stored = [node.id for node in ast.walk(function)
                          if isinstance(node, ast.Name) and isinstance(node.ctx, ast.Store)]
                self.assertEqual([one for one in stored if one in defined(tree)], [], f"{name}.{function.name}")

    def test_builtins_and_methods(self):
        own = {node.name for _, node in every(ast.FunctionDef)}
        for name, tree in trees().items():
            known = set(defined(tree)) | {what for _, what in imported(tree)}
            for node in ast.walk(tree):
                if isinstance(node, ast.Name) and node.id in dir(builtins) and node.id not in known:
                    self.assertIn(node.id, BUILTINS, f"{name} {node.lineno}")
                if isinstance(node, ast.Call) and isinstance(node.func, ast.Attribute):
                    self.assertIn(node.func.attr, METHODS | own, f"{name} {node.lineno}")

    def test_barred_words(self):
        for path in FOLDER.glob("*.py"):
            tree = ast.parse(path.read_text())
            words = [node.id for node in ast.walk(tree) if isinstance(node, ast.Name)]
            words += [node.attr for node in ast.walk(tree) if isinstance(node, ast.Attribute)]
            words += [node.arg for node in ast.walk(tree) if isinstance(node, (ast.arg, ast.keyword))]
            words += [node.name for node in ast.walk(tree) if isinstance(node, (ast.FunctionDef, ast.ClassDef))]
            self.assertEqual(set(words) & BARRED, set(), path.name)
            for word in words:
                self.assertTrue(word in MAGIC or re.fullmatch(r"_|_?[A-Za-z][A-Za-z0-9_]*", word), word)

    def test_no_name_is_a_method_and_an_attribute_of_one_class(self):
        for name, node in every(ast.ClassDef):
            methods = {part.name for part in node.body if isinstance(part, ast.FunctionDef)}
            stored = {part.attr for part in ast.walk(node)
                      if isinstance(part, ast.Attribute) and isinstance(part.ctx, ast.Store)}
            self.assertEqual(methods & stored, set(), node.name)
            self.assertEqual({one for one in methods if one.startswith("__")} - MAGIC, set(), name)

    def test_attributes_that_are_read_are_assigned(self):
        stored = {node.attr for _, node in every(ast.Attribute) if isinstance(node.ctx, ast.Store)}
        methods = {node.name for _, node in every(ast.FunctionDef)}
        for name, node in every(ast.Attribute):
            self.assertIn(node.attr, stored | methods | METHODS, f"{name} {node.lineno}")


if __name__ == "__main__":
    unittest.main()
