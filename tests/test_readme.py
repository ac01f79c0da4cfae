"""The README: each row of its examples that tells something behind a # tells what the program tells."""

import ast
import pathlib
import re
import unittest

README = pathlib.Path(__file__).parent.parent / "README.md"


class TestReadme(unittest.TestCase):
    def test_each_example(self):
        blocks = re.findall("```python\n(.*?)```", README.read_text(encoding="utf-8"), re.DOTALL)
        self.assertGreater(len(blocks), 3)
        known, compared = {}, 0
        for block in blocks:
            rows = block.split("\n")
            for node in ast.parse(block).body:
                _, _, expected = rows[node.end_lineno - 1].partition("  # ")
                if isinstance(node, ast.Expr) and expected:
                    with self.subTest(row=rows[node.end_lineno - 1]):
                        # What a house tells changes with its deeds, so each row is asked where it stands.
                        answer = repr(eval(ast.unparse(node), known)).replace("'", '"')
                        self.assertIn(expected.strip()[:len(answer) + 1], (answer, answer + ":"))
                        compared += 1
                else:
                    exec(ast.unparse(node), known)
        self.assertGreater(compared, 60)


if __name__ == "__main__":
    unittest.main()
