"""README.md's examples answer what it says."""

import ast
import re
import unittest
from pathlib import Path

README = Path(__file__).resolve().parent.parent / "README.md"


def examples():
    """Each row of README.md's Python that asks something: its block's imports, the call and the answer."""
    for block in re.findall(r"```python\n(.*?)```", README.read_text(), re.DOTALL):
        imports = "\n".join(row for row in block.split("\n") if row.startswith("from "))
        for row in block.split("\n"):
            call, mark, remark = row.partition("  # ")
            if mark:
                yield imports, call, remark.partition(": ")[0]


class TestReadme(unittest.TestCase):
    def test_every_example(self):
        found = list(examples())
        self.assertGreater(len(found), 20)
        for imports, call, answer in found:
            with self.subTest(call):
                names = {}
                exec(imports, names)
                told = eval(call.strip(), names)
                self.assertEqual(told, ast.literal_eval(answer))
                self.assertIs(type(told), type(ast.literal_eval(answer)))


if __name__ == "__main__":
    unittest.main()
