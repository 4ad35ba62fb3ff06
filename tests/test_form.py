"""The form of the package's files, as far as it is quickly seen."""

import ast
import builtins
import pathlib
import re
import unittest

PACKAGE = pathlib.Path(__file__).resolve().parent.parent / "cutmeet"
NEVER = (
    "type typing typing_extensions enum Enum IntEnum StrEnum Flag IntFlag Generic Protocol ABC ABCMeta namedtuple "
    "NamedTuple TypedDict TYPE_CHECKING abstractmethod"
).split()
NOT_USED = (
    ast.With, ast.Match, ast.Global, ast.Nonlocal, ast.Yield, ast.YieldFrom, ast.GeneratorExp, ast.NamedExpr,
    ast.Import, ast.AsyncFunctionDef, ast.Div, ast.Starred, ast.Await,
)
OWN_NAMES = (
    "len range enumerate zip min max sum abs sorted reversed int str bool bytes list tuple dict set isinstance ord repr "
    "any all divmod Exception ValueError KeyError IndexError LookupError"
).split()
METHODS = (
    "append clear copy count endswith extend find get index insert isalnum isalpha isdigit islower isspace isupper items "
    "join keys ljust lower lstrip partition pop remove replace reverse rfind rjust rpartition rsplit rstrip setdefault "
    "split splitlines startswith strip update upper values zfill"
).split()


def sources():
    return sorted(PACKAGE.glob("*.py"))


def trees():
    return {path.stem: ast.parse(path.read_text()) for path in sources()}


def nodes(tree, kind):
    return [node for node in ast.walk(tree) if isinstance(node, kind)]


def given_names(tree):
    """The parameters and locals of all defs of a file."""
    found = [arg.arg for node in nodes(tree, ast.arguments) for arg in node.args + node.kwonlyargs]
    for node in nodes(tree, ast.FunctionDef):
        found += [name.id for name in nodes(node, ast.Name) if isinstance(name.ctx, ast.Store)]
    return set(found)


def drawn_names(tree):
    """The names that a file draws from others."""
    return {name.asname or name.name for node in nodes(tree, ast.ImportFrom) for name in node.names}


def top_names(tree):
    """The names that a file defines itself."""
    found = {node.name for node in tree.body if isinstance(node, (ast.FunctionDef, ast.ClassDef))}
    return found | {name.id for node in tree.body if isinstance(node, ast.Assign) for name in nodes(node, ast.Name)}


def own_methods():
    return {node.name for tree in trees().values() for kind in nodes(tree, ast.ClassDef) for node in kind.body
            if isinstance(node, ast.FunctionDef)}


def own_values():
    return {node.attr for tree in trees().values() for node in nodes(tree, ast.Attribute)
            if isinstance(node.ctx, ast.Store)}


class Form(unittest.TestCase):
    def test_only_python_files_lie_in_the_package(self):
        names = {path.name for path in PACKAGE.iterdir() if path.name != "__pycache__"}
        self.assertEqual(names, {path.name for path in sources()})

    def test_signs_and_sizes(self):
        for path in sources():
            rows = path.read_bytes().decode("ascii").split("\n")
            self.assertLessEqual(len(rows), 400, path)
            for row in rows:
                self.assertLessEqual(len(row), 120, path)
                self.assertRegex(row, r"\A[ -~]*\Z")

    def test_words_that_stand_nowhere(self):
        for path in sources():
            words = re.findall(r"\w+", path.read_text())
            self.assertEqual([word for word in words if word in NEVER], [], path)

    def test_functions_are_short_and_statements_plain(self):
        for path in sources():
            for node in ast.walk(ast.parse(path.read_text())):
                self.assertNotIsInstance(node, NOT_USED, path)
                if isinstance(node, ast.FunctionDef):
                    self.assertLessEqual(node.end_lineno - node.lineno + 1, 40, (path, node.name))
                    self.assertEqual(node.decorator_list, [])

    def test_imports_are_the_packages_own(self):
        for path in sources():
            for node in ast.walk(ast.parse(path.read_text())):
                if isinstance(node, ast.ImportFrom):
                    self.assertTrue(node.module.startswith("cutmeet."), path)

    def test_each_name_is_drawn_from_the_file_that_defines_it_and_used(self):
        every = trees()
        for stem, tree in every.items():
            used = {node.id for node in nodes(tree, ast.Name)}
            for node in nodes(tree, ast.ImportFrom):
                drawn = {name.name for name in node.names}
                self.assertLessEqual(drawn, top_names(every[node.module.partition(".")[2]]), stem)
                self.assertLessEqual(drawn, used, stem)

    def test_no_two_files_draw_from_one_another(self):
        below = {stem: {node.module.partition(".")[2] for node in nodes(tree, ast.ImportFrom)}
                 for stem, tree in trees().items()}
        while below:
            free = [stem for stem in below if not below[stem] & set(below)]
            self.assertTrue(free, below)
            for stem in free:
                del below[stem]

    def test_names_have_one_meaning(self):
        for stem, tree in trees().items():
            kinds = {node.name for node in nodes(tree, ast.ClassDef)}
            given = given_names(tree)
            self.assertEqual(given & (kinds | drawn_names(tree) | set(dir(builtins))), set(), stem)
            self.assertEqual([name for name in given | top_names(tree) if name.startswith("_")], [], stem)
            asked = {node.id for node in nodes(tree, ast.Name)} & set(dir(builtins))
            self.assertLessEqual(asked, set(OWN_NAMES), stem)

    def test_methods_and_values(self):
        methods, values = own_methods(), own_values()
        self.assertEqual(methods & values, set())
        for stem, tree in trees().items():
            called = [node.func for node in nodes(tree, ast.Call) if isinstance(node.func, ast.Attribute)]
            self.assertLessEqual({node.attr for node in called}, methods | set(METHODS), stem)
            asked = {node.attr for node in nodes(tree, ast.Attribute) if node not in called}
            self.assertLessEqual(asked, values, stem)

    def test_signs_that_are_not_used(self):
        for stem, tree in trees().items():
            for node in nodes(tree, ast.Constant):
                self.assertFalse(isinstance(node.value, (float, complex)), stem)
                self.assertFalse(isinstance(node.value, str) and "%" in node.value, stem)
            for node in nodes(tree, ast.Compare):
                for sign, thing in zip(node.ops, node.comparators):
                    if isinstance(sign, (ast.Is, ast.IsNot)):
                        self.assertIsInstance(thing, ast.Constant, stem)
            self.assertEqual([node for node in nodes(tree, ast.BinOp) if isinstance(node.op, ast.Pow)], [], stem)


if __name__ == "__main__":
    unittest.main()
