"""The interface: where each function stands, and what its arguments are called."""

import inspect
import pathlib
import unittest

from blindtill import (
    clerk, costs, counting, errors, holders, house, making, most, parting, piles, powers, rights, room, safe, serving)

PACKAGE = pathlib.Path(piles.__file__).parent

INTERFACE = (
    (piles, "is_pile", "(thing)"), (piles, "whole", "(pile)"), (piles, "less", "(pile, worth)"),
    (piles, "put", "(one, other)"), (piles, "take", "(pile, other)"), (piles, "payings", "(pile, amount)"),
    (rights, "is_right", "(thing)"), (rights, "names", "(right)"), (rights, "may", "(right, name)"),
    (rights, "behind", "(right, name, amount)"), (rights, "lapse", "(right, name)"), (rights, "trimmed", "(right)"),
    (rights, "after", "(right, run)"),
    (most, "most", "(right, *, below=None, calls=None)"), (most, "longest", "(right)"),
    (most, "most_run", "(right, *, below=None, calls=None)"),
    (serving, "serves", "(pile, right)"), (serving, "stumped", "(pile, right)"),
    (serving, "judge_stump", "(pile, right, thing)"),
    (clerk, "pay", "(pile, amount)"), (clerk, "paid", "(pile, amounts)"),
    (safe, "allow", "(pile, amount, *, below=None)"), (safe, "is_safe", "(pile, paying)"),
    (safe, "telling_call", "(pile, paying)"), (safe, "safe_payings", "(pile, amount)"),
    (room, "room", "(pile, right)"), (room, "copies", "(pile, right, other)"),
    (room, "roomiest", "(pile, right, name, amount)"),
    (costs, "no_dearer", "(one, other)"), (costs, "telling_till", "(one, other)"), (costs, "cover", "(right)"),
    (costs, "choice", "(right)"), (costs, "stands_for", "(one, other)"), (costs, "telling_place", "(one, other)"),
    (powers, "power", "(pile, *, below=None)"), (powers, "does_all", "(one, other)"),
    (powers, "telling_right", "(one, other)"), (powers, "greatest", "(pile)"), (powers, "alive", "(pile)"),
    (powers, "leanest", "(pile)"), (powers, "outdoes", "(one, other)"), (powers, "telling_company", "(one, other)"),
    (making, "fewest", "(right, *, worths=None)"), (making, "lacking", "(pile, right)"),
    (making, "to_bring", "(pile, right)"), (making, "broken_up", "(pile, worth, parts)"),
    (making, "to_break", "(pile, right)"), (making, "must_stay", "(pile, right)"),
    (parting, "parted", "(pile, parts)"), (parting, "can_part", "(pile, one, other)"),
    (holders, "ready", "(pile)"), (holders, "undealt", "(pile, many)"), (holders, "tables", "(pile, seats)"),
    (holders, "shut_group", "(purses)"),
    (counting, "how_many", "(right, worth, coins)"), (counting, "all_tills", "(right, worth, coins)"),
    (counting, "till_at", "(right, worth, coins, place)"), (counting, "place_of", "(right, pile)"))

HOUSE = (
    ("tills", "(self)"), ("pile_of", "(self, till)"), ("promises_of", "(self, till)"), ("right_of", "(self, till)"),
    ("new", "(self, till, pile)"), ("bring", "(self, till, pile)"), ("promise", "(self, till, *, name, right)"),
    ("call", "(self, till, *, name, amount)"), ("lapse", "(self, till, *, name)"), ("end", "(self, till, *, name)"),
    ("would", "(self, till, right)"), ("cut", "(self, till, *, name, others)"),
    ("melt", "(self, till, *, which, into)"), ("break_coin", "(self, till, *, worth, parts)"),
    ("lend", "(self, till, pile)"), ("unite", "(self, till, other)"),
    ("part", "(self, till, other, *, worth, which)"), ("carry", "(self, till, other, *, name)"), ("seen", "(self)"),
    ("flow", "(self)"))


class TestInterface(unittest.TestCase):
    def test_each_function_is_defined_in_its_file(self):
        for module, name, arguments in INTERFACE:
            with self.subTest(name=name):
                asked = getattr(module, name)
                self.assertEqual(asked.__module__, module.__name__)
                self.assertEqual(str(inspect.signature(asked)), arguments)

    def test_each_method_is_defined_in_the_house_itself(self):
        self.assertEqual(house.House.__module__, house.__name__)
        self.assertEqual(str(inspect.signature(house.House)), "()")
        for name, arguments in HOUSE:
            with self.subTest(name=name):
                self.assertIn(name, vars(house.House))
                self.assertEqual(str(inspect.signature(vars(house.House)[name])), arguments)

    def test_each_refusal_stands_straight_beneath_till_error(self):
        self.assertEqual(errors.TillError.__bases__, (ValueError,))
        for name in ("NoPile", "NoRight", "NoName", "NoNumber", "NoWorths", "NoParts", "TooGreat", "NoTill", "Taken",
                     "NoPromise", "NoPlace", "NoCall", "NoCoins", "NoPay", "Unserved", "Stuck"):
            self.assertEqual(getattr(errors, name).__bases__, (errors.TillError,))

    def test_the_package_itself_holds_nothing(self):
        self.assertEqual((PACKAGE / "__init__.py").read_bytes(), b"")


if __name__ == "__main__":
    unittest.main()
