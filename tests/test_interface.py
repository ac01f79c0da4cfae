"""The interface: where each function stands, and what its arguments are called."""

import inspect
import pathlib
import unittest

from blindtill import clerk, most, piles, rights, safe, serving

PACKAGE = pathlib.Path(piles.__file__).parent

INTERFACE = (
    (piles, "is_pile", "(thing)"), (piles, "whole", "(pile)"), (piles, "less", "(pile, worth)"),
    (piles, "put", "(one, other)"), (piles, "take", "(pile, other)"), (piles, "payings", "(pile, amount)"),
    (rights, "is_right", "(thing)"), (rights, "names", "(right)"), (rights, "may", "(right, name)"),
    (rights, "behind", "(right, name, amount)"), (rights, "lapse", "(right, name)"), (rights, "trimmed", "(right)"),
    (rights, "after", "(right, run)"),
    (most, "most", "(right, *, below=None, calls=None)"), (most, "longest", "(right)"),
    (most, "most_run", "(right, *, below=None, calls=None)"),
    (serving, "serves", "(pile, right)"), (serving, "stumped", "(pile, right)"),
    (serving, "judge_stump", "(pile, right, thing)"),
    (clerk, "pay", "(pile, amount)"), (clerk, "paid", "(pile, amounts)"),
    (safe, "allow", "(pile, amount, *, below=None)"), (safe, "is_safe", "(pile, paying)"),
    (safe, "telling_call", "(pile, paying)"), (safe, "safe_payings", "(pile, amount)"))


class TestInterface(unittest.TestCase):
    def test_each_function_is_defined_in_its_file(self):
        for module, name, arguments in INTERFACE:
            with self.subTest(name=name):
                asked = getattr(module, name)
                self.assertEqual(asked.__module__, module.__name__)
                self.assertEqual(str(inspect.signature(asked)), arguments)

    def test_the_package_itself_holds_nothing(self):
        self.assertEqual((PACKAGE / "__init__.py").read_bytes(), b"")


if __name__ == "__main__":
    unittest.main()
