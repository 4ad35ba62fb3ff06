"""The form of the package's files, as far as it is quickly seen."""

import ast
import pathlib
import re
import unittest

PACKAGE = pathlib.Path(__file__).resolve().parent.parent / "cutmeet"
NEVER = (
    "type typing typing_extensions enum Enum IntEnum StrEnum Flag IntFlag Generic Protocol ABC ABCMeta namedtuple "
    "NamedTuple TypedDict TYPE_CHECKING abstractmethod"
).split()
NOT_USED = (
    ast.With, ast.Match, ast.Global, ast.Nonlocal, ast.Yield, ast.YieldFrom, ast.GeneratorExp, ast.NamedExpr,
    ast.Import, ast.AsyncFunctionDef, ast.Div, ast.Starred, ast.Await,
)


def sources():
    return sorted(PACKAGE.glob("*.py"))


class Form(unittest.TestCase):
    def test_only_python_files_lie_in_the_package(self):
        names = {path.name for path in PACKAGE.iterdir() if path.name != "__pycache__"}
        self.assertEqual(names, {path.name for path in sources()})

    def test_signs_and_sizes(self):
        for path in sources():
            rows = path.read_bytes().decode("ascii").split("\n")
            self.assertLessEqual(len(rows), 400, path)
            for row in rows:
                self.assertLessEqual(len(row), 120, path)
                self.assertRegex(row, r"\A[ -~]*\Z")

    def test_words_that_stand_nowhere(self):
        for path in sources():
            words = re.findall(r"\w+", path.read_text())
            self.assertEqual([word for word in words if word in NEVER], [], path)

    def test_functions_are_short_and_statements_plain(self):
        for path in sources():
            for node in ast.walk(ast.parse(path.read_text())):
                self.assertNotIsInstance(node, NOT_USED, path)
                if isinstance(node, ast.FunctionDef):
                    self.assertLessEqual(node.end_lineno - node.lineno + 1, 40, (path, node.name))
                    self.assertEqual(node.decorator_list, [])

    def test_imports_are_the_packages_own(self):
        for path in sources():
            for node in ast.walk(ast.parse(path.read_text())):
                if isinstance(node, ast.ImportFrom):
                    self.assertTrue(node.module.startswith("cutmeet."), path)


if __name__ == "__main__":
    unittest.main()
