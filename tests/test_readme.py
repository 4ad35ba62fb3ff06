"""What README.md shows is what the program answers."""

import pathlib
import re
import unittest

README = pathlib.Path(__file__).resolve().parent.parent / "README.md"


class Readme(unittest.TestCase):
    def test_each_row(self):
        shown = re.search(r"```python\n(.*?)```", README.read_text(), re.S).group(1)
        names = {}
        for row in shown.split("\n"):
            asked, mark, due = row.partition("  # ")
            if mark:
                self.assertEqual(repr(eval(asked, names)), due.strip(), row)
            else:
                exec(row, names)


if __name__ == "__main__":
    unittest.main()
