"""The package's files keep to the small part of Python that they are meant to be written in."""

import ast
import builtins
import keyword
import pathlib
import re
import unittest

PACKAGE = pathlib.Path(__file__).resolve().parent.parent / "quietaids"
FILES = sorted(PACKAGE.glob("*.py"))
OWN_NAMES = set(
    "len range enumerate zip min max sum abs sorted reversed int str bool list tuple dict set frozenset isinstance ord"
    " repr any all divmod Exception ValueError TypeError KeyError IndexError LookupError ZeroDivisionError"
    " ArithmeticError OverflowError RuntimeError NotImplementedError AttributeError StopIteration".split())
METHODS = set(
    "append clear copy count endswith extend find get index insert isalnum isalpha isdigit islower isspace isupper"
    " items join keys ljust lower lstrip partition pop remove replace reverse rfind rjust rpartition rsplit rstrip"
    " setdefault split splitlines startswith strip update upper values zfill bit_length".split())
WORDS_NOWHERE = (
    "type typing typing_extensions enum Enum IntEnum StrEnum Flag IntFlag Generic Protocol ABC ABCMeta namedtuple"
    " NamedTuple TypedDict TYPE_CHECKING abstractmethod").split()
WITHIN_WORDS_EITHER = ("dataclass", "overload", "contextmanager")
NAMES_NOWHERE = set(
    "register mro elements open input version_info with_traceback add_note attrgetter breakpoint builtins compile"
    " copyright credits delattr dir eval exec exit gc getattr globals hasattr help id importlib license locals"
    " methodcaller os quit setattr super vars sys __name__ format format_map chr print".split())
NODES = (
    ast.Module, ast.FunctionDef, ast.ClassDef, ast.arguments, ast.arg, ast.ImportFrom, ast.alias, ast.Assign,
    ast.AugAssign, ast.If, ast.While, ast.For, ast.Return, ast.Break, ast.Continue, ast.Pass, ast.Raise, ast.Try,
    ast.ExceptHandler, ast.Expr, ast.Constant, ast.List, ast.Tuple, ast.Dict, ast.BinOp, ast.UnaryOp, ast.BoolOp,
    ast.Compare, ast.IfExp, ast.Call, ast.keyword, ast.Attribute, ast.Subscript, ast.Slice, ast.ListComp,
    ast.comprehension, ast.Name, ast.Lambda, ast.expr_context, ast.operator, ast.unaryop, ast.boolop, ast.cmpop,
    ast.JoinedStr, ast.FormattedValue)
WALKED_AT_ONCE = ("zip", "enumerate", "reversed", "range")
WALKERS = ("list", "tuple", "dict", "sorted", "sum", "any", "all", "enumerate", "zip", "min", "max")


def trees():
    return {path: ast.parse(path.read_text()) for path in FILES}


def nodes(kind):
    return [(path, node) for path, tree in trees().items() for node in ast.walk(tree) if isinstance(node, kind)]


def bound_at_top(tree):
    names = []
    for node in tree.body:
        if isinstance(node, (ast.FunctionDef, ast.ClassDef)):
            names.append(node.name)
        elif isinstance(node, ast.ImportFrom):
            names += [each.name for each in node.names]
        elif isinstance(node, ast.Assign):
            names += [each.id for each in node.targets]
    return names


def is_plain(node, functions):
    if isinstance(node, ast.Constant):
        return node.value is None or isinstance(node.value, (int, str))
    if isinstance(node, ast.Name):
        return node.id in functions
    return isinstance(node, ast.Tuple) and all(is_plain(each, functions) for each in node.elts)


class Files(unittest.TestCase):
    def test_what_lies_in_the_package(self):
        self.assertIn("aids.py", [path.name for path in FILES])
        self.assertIn("__init__.py", [path.name for path in FILES])
        for path in PACKAGE.iterdir():
            if path.name != "__pycache__":
                self.assertRegex(path.name, r"^(__init__|[a-z][a-z0-9_]*)\.py$")
                self.assertNotIn(path.stem, dir(builtins))
                self.assertNotRegex(path.stem, r"^(tests?|testing|test_.*|site|conftest|.*customize)$")

    def test_rows_and_signs(self):
        for path in FILES:
            text = path.read_bytes().decode("ascii")
            self.assertNotRegex(text, r"[^ -~\n]", path)
            rows = text.split("\n")
            self.assertLessEqual(len(rows), 399, path)
            self.assertLessEqual(max(len(row) for row in rows), 120, path)

    def test_words_that_stand_nowhere(self):
        for path in FILES:
            text = path.read_text()
            self.assertFalse(set(re.findall(r"\w+", text)) & set(WORDS_NOWHERE), path)
            for part in WITHIN_WORDS_EITHER:
                self.assertNotIn(part, text, path)

    def test_how_long_a_function_is(self):
        for path, node in nodes(ast.FunctionDef):
            self.assertLessEqual(node.end_lineno - node.lineno + 1, 40, (path, node.name))


class Imports(unittest.TestCase):
    def test_from_the_very_file_that_defines_the_name(self):
        for path, node in nodes((ast.Import, ast.ImportFrom)):
            self.assertIsInstance(node, ast.ImportFrom, path)
            self.assertEqual(node.level, 0, path)
            self.assertTrue(node.module.startswith("quietaids."), path)
            source = ast.parse((PACKAGE / (node.module.split(".")[1] + ".py")).read_text())
            defined = [each.name for each in source.body if isinstance(each, (ast.FunctionDef, ast.ClassDef))]
            defined += [t.id for each in source.body if isinstance(each, ast.Assign) for t in each.targets]
            for each in node.names:
                self.assertIn(each.name, defined, path)
                self.assertIsNone(each.asname, path)

    def test_no_two_files_draw_from_one_another(self):
        drawn = {path.stem: [] for path in FILES}
        for path, node in nodes(ast.ImportFrom):
            drawn[path.stem].append(node.module.split(".")[1])
        while drawn:
            free = [stem for stem in drawn if not any(other in drawn for other in drawn[stem])]
            self.assertTrue(free, drawn)
            for stem in free:
                drawn.pop(stem)

    def test_every_import_is_used(self):
        for path, tree in trees().items():
            used = {node.id for node in ast.walk(tree) if isinstance(node, ast.Name)}
            for node in tree.body:
                if isinstance(node, ast.ImportFrom):
                    self.assertLessEqual({each.name for each in node.names}, used, path)

    def test_the_interface_is_written_in_its_own_file_alone(self):
        found = [path.name for path, tree in trees().items() for node in tree.body
                 if getattr(node, "name", None) == "answers"]
        self.assertEqual(found, ["aids.py"])


class Names(unittest.TestCase):
    def test_a_name_is_bound_once_at_a_files_top(self):
        for path, tree in trees().items():
            names = bound_at_top(tree)
            self.assertEqual(len(names), len(set(names)), path)

    def test_no_name_begins_with_an_underscore(self):
        for path, tree in trees().items():
            for node in ast.walk(tree):
                for field in ("id", "attr", "arg", "name"):
                    name = getattr(node, field, None)
                    if isinstance(name, str) and not isinstance(node, ast.alias):
                        self.assertTrue(name == "__init__" or not name.startswith("_"), (path, name))
                        self.assertNotIn(name, NAMES_NOWHERE, path)

    def test_no_local_is_called_like_what_stands_at_the_top_or_in_python(self):
        for path, tree in trees().items():
            taken = set(bound_at_top(tree)) | set(dir(builtins)) | set(keyword.softkwlist)
            for function in ast.walk(tree):
                if isinstance(function, ast.FunctionDef):
                    for node in ast.walk(function):
                        if isinstance(node, ast.arg):
                            self.assertNotIn(node.arg, taken, (path, function.name))
                        if isinstance(node, ast.Name) and isinstance(node.ctx, ast.Store):
                            self.assertNotIn(node.id, taken, (path, function.name))

    def test_pythons_own_names(self):
        for path, node in nodes(ast.Name):
            if hasattr(builtins, node.id):
                self.assertIn(node.id, OWN_NAMES, path)

    def test_methods_and_values(self):
        methods = {item.name for path, node in nodes(ast.ClassDef) for item in node.body
                   if isinstance(item, ast.FunctionDef)}
        values = {node.attr for path, node in nodes(ast.Attribute) if isinstance(node.ctx, ast.Store)}
        self.assertFalse(methods & values)
        of_python = set(dir(str) + dir(int) + dir(list) + dir(dict) + dir(set) + dir(bytes)) - {"__init__"}
        self.assertFalse((methods | values) & of_python)
        for path, node in nodes(ast.Attribute):
            self.assertIn(node.attr, methods | values | METHODS, path)


class Forms(unittest.TestCase):
    def test_nothing_else_than_the_listed_statements_and_expressions(self):
        for path, node in nodes(ast.AST):
            self.assertIsInstance(node, NODES, (path, getattr(node, "lineno", 0)))
            self.assertNotIsInstance(node, (ast.Div, ast.MatMult, ast.Pow), path)

    def test_what_stands_at_a_files_top(self):
        for path, tree in trees().items():
            self.assertIsInstance(tree.body[0].value, ast.Constant, path)
            functions = [node.name for node in tree.body if isinstance(node, ast.FunctionDef)]
            for node in tree.body[1:]:
                self.assertIsInstance(node, (ast.FunctionDef, ast.ClassDef, ast.ImportFrom, ast.Assign), path)
                if isinstance(node, ast.Assign):
                    self.assertTrue(is_plain(node.value, functions), (path, node.lineno))

    def test_functions_are_plain(self):
        for path, node in nodes(ast.FunctionDef):
            given = node.args
            self.assertFalse(given.vararg or given.kwarg or given.kwonlyargs or given.posonlyargs or given.defaults)
            self.assertFalse(node.decorator_list or node.returns or any(each.annotation for each in given.args))

    def test_classes_are_plain(self):
        for path, node in nodes(ast.ClassDef):
            self.assertFalse(node.decorator_list or node.keywords or len(node.bases) > 1, path)
            for item in node.body:
                self.assertIsInstance(item, (ast.FunctionDef, ast.Pass), (path, node.name))

    def test_statements_and_loops(self):
        for path, node in nodes((ast.Assign, ast.For, ast.While, ast.Try, ast.ListComp)):
            self.assertLessEqual(len(getattr(node, "targets", [])), 1, path)
            if isinstance(node, (ast.For, ast.While)):
                self.assertFalse(node.orelse, path)
            if isinstance(node, ast.Try):
                self.assertFalse(node.finalbody, path)
                self.assertTrue(all(isinstance(each.type, ast.Name) for each in node.handlers), path)
            if isinstance(node, ast.ListComp):
                self.assertEqual(len(node.generators), 1, path)
                self.assertLessEqual(len(node.generators[0].ifs), 1, path)

    def test_is_stands_beside_none_true_and_false(self):
        for path, node in nodes(ast.Compare):
            if any(isinstance(each, (ast.Is, ast.IsNot)) for each in node.ops):
                self.assertIsInstance(node.comparators[0], ast.Constant, path)

    def test_walked_at_once(self):
        allowed = set()
        for path, tree in trees().items():
            for node in ast.walk(tree):
                if isinstance(node, (ast.For, ast.comprehension)):
                    allowed.add((path, node.iter.lineno, node.iter.col_offset))
                if isinstance(node, ast.Call) and isinstance(node.func, ast.Name) and node.func.id in WALKERS:
                    allowed |= {(path, each.lineno, each.col_offset) for each in node.args[:1]}
        for path, node in nodes(ast.Call):
            if isinstance(node.func, ast.Name) and node.func.id in WALKED_AT_ONCE:
                self.assertIn((path, node.lineno, node.col_offset), allowed)

    def test_tuples_of_a_files_top_are_read_by_an_index_alone(self):
        for path, tree in trees().items():
            kept = [t.id for node in tree.body if isinstance(node, ast.Assign) and isinstance(node.value, ast.Tuple)
                    for t in node.targets]
            indexed = {id(node.value) for node in ast.walk(tree)
                       if isinstance(node, ast.Subscript) and isinstance(node.ctx, ast.Load)}
            for node in ast.walk(tree):
                if isinstance(node, ast.Name) and node.id in kept and isinstance(node.ctx, ast.Load):
                    self.assertIn(id(node), indexed, (path, node.id))

    def test_calls_without_stars_and_texts_without_a_percent_sign(self):
        for path, node in nodes((ast.Call, ast.Constant)):
            if isinstance(node, ast.Call):
                self.assertFalse(node.keywords, path)
            elif isinstance(node.value, str):
                self.assertNotIn("%", node.value, path)
            else:
                self.assertTrue(node.value is None or isinstance(node.value, int), path)


if __name__ == "__main__":
    unittest.main()
