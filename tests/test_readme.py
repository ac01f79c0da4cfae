"""The README: each row of its examples that tells something behind a # tells what the program tells."""

import pathlib
import re
import unittest

README = pathlib.Path(__file__).parent.parent / "README.md"


class TestReadme(unittest.TestCase):
    def test_each_example(self):
        blocks = re.findall("```python\n(.*?)```", README.read_text(encoding="utf-8"), re.DOTALL)
        self.assertGreater(len(blocks), 3)
        known = {}
        for block in blocks:
            exec(block, known)
            for row in block.split("\n"):
                asked, _, expected = row.partition("  # ")
                if expected and not row.startswith(" "):
                    with self.subTest(row=row):
                        answer = repr(eval(asked, known)).replace("'", '"')
                        self.assertIn(expected.strip()[:len(answer) + 1], (answer, answer + ":"))


if __name__ == "__main__":
    unittest.main()
