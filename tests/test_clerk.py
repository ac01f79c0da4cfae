"""Point [14], and what [2], [3] and [4] say of the clerk."""

import itertools
import unittest

from blindtill.clerk import paid, pay
from blindtill.errors import NoNumber, NoPay, NoPile
from blindtill.most import longest, most
from blindtill.piles import is_pile, payings, put, take, whole
from blindtill.rights import behind
from blindtill.serving import serves
from runs import any_rights, next_calls, rights_of_two_forms
from things import NO_LISTS, NO_NUMBERS, NO_PILES, count_up, nested, one_or_more_wrong, seconds, told, told_each_way
from ways import calls_of, lists_of, piles_up_to

MANY = 10 ** 12
PILE = ((1, 4), (5, 1), (10, 2), (50, 1))
SMALL = [right for right in rights_of_two_forms()[::7] + any_rights(11, 100, "abc", 4, 2)
         if most(right) <= 9 and longest(right) <= 4]


def no_pay(rest):
    return (NoPay, {"rest": rest})


def pay_coin_by_coin(pile, amount):
    """What a clerk pays, and leaves to pay, who always takes the greatest coin that fits."""
    coins = sorted((worth for worth, many in pile for _ in range(many)), reverse=True)
    taken = []
    for coin in coins:
        if sum(taken) + coin <= amount:
            taken.append(coin)
    return tuple((worth, taken.count(worth)) for worth in sorted(set(taken))), amount - sum(taken)


class TestPay(unittest.TestCase):
    def test_the_greatest_coins_that_fit(self):
        for pile, amount, expected in (
                ((), 0, ()), (PILE, 0, ()), (PILE, 1, ((1, 1),)), (PILE, 4, ((1, 4),)), (PILE, 5, ((5, 1),)),
                (PILE, 9, ((1, 4), (5, 1))), (PILE, 10, ((10, 1),)), (PILE, 20, ((10, 2),)),
                (PILE, 28, ((1, 3), (5, 1), (10, 2))), (PILE, 50, ((50, 1),)),
                (PILE, 76, ((1, 1), (5, 1), (10, 2), (50, 1))),
                (PILE, 79, PILE), (((1, 9),), 7, ((1, 7),)), (((3, 2), (4, 1)), 6, no_pay(2)),
                (((2, 3), (5, 1)), 6, no_pay(1)), (((2, 3), (5, 1)), 11, ((2, 3), (5, 1)))):
            with self.subTest(pile=pile, amount=amount):
                self.assertEqual(told_each_way(pay, (pile, amount), ("pile", "amount")), [expected] * 3)

    def test_no_pay_tells_what_is_left(self):
        for pile, amount, rest in (
                ((), 1, 1), ((), MANY, MANY), ((), 10 ** 30, 10 ** 30), (PILE, 80, 1), (PILE, 30, 1), (PILE, 49, 20),
                (PILE, MANY, MANY - 79), (((5, 3),), 4, 4), (((5, 3),), 14, 4), (((5, 3),), 16, 1),
                (((2, 9),), 7, 1), (((3, 1), (5, 1)), 7, 2), (((3, 1), (5, 1)), 6, 1)):
            with self.subTest(pile=pile, amount=amount):
                self.assertEqual(told_each_way(pay, (pile, amount), ("pile", "amount")), [no_pay(rest)] * 3)

    def test_pay_is_that_of_coin_by_coin(self):
        for pile in piles_up_to(9) + [PILE, ((2, 3), (3, 3), (7, 2)), ((1, 1), (4, 3), (6, 2), (9, 1))]:
            for amount in range(whole(pile) + 4):
                paying, rest = pay_coin_by_coin(pile, amount)
                with self.subTest(pile=pile, amount=amount):
                    self.assertEqual(told(pay, pile, amount), no_pay(rest) if rest else paying)
                    if not rest:
                        self.assertIn(paying, payings(pile, amount))

    def test_great_coins(self):
        pile = ((1, MANY), (10 ** 9, MANY), (MANY, MANY))
        self.assertEqual(pay(pile, MANY - 1), ((1, 10 ** 9 - 1), (10 ** 9, 999)))
        self.assertEqual(pay(pile, MANY), ((MANY, 1),))
        self.assertEqual(pay(pile, whole(pile)), pile)
        self.assertEqual(told(pay, pile, whole(pile) + 3), no_pay(3))
        self.assertEqual(pay(((10 ** 30, 10 ** 30),), 10 ** 60), ((10 ** 30, 10 ** 30),))


class TestPaid(unittest.TestCase):
    def test_rows(self):
        for pile, amounts, expected in (
                ((), [], ([], ())), (PILE, [], ([], PILE)), ((), [0, 0], ([(), ()], ())),
                (PILE, [0, 5, 0], ([(), ((5, 1),), ()], ((1, 4), (10, 2), (50, 1)))),
                (PILE, [6, 3], ([((1, 1), (5, 1)), ((1, 3),)], ((10, 2), (50, 1)))),
                (PILE, [10, 10, 50, 5, 4], ([((10, 1),), ((10, 1),), ((50, 1),), ((5, 1),), ((1, 4),)], ())),
                (PILE, [79], ([PILE], ())), (PILE, [0, 79, 0], ([(), PILE, ()], ())),
                # The second five is paid in ones, for the five is gone.
                (((1, 6), (5, 1)), [5, 5], ([((5, 1),), ((1, 5),)], ((1, 1),)))):
            with self.subTest(pile=pile, amounts=amounts):
                self.assertEqual(told_each_way(paid, (pile, amounts), ("pile", "amounts")), [expected] * 3)
                self.assertIs(type(paid(pile, amounts)), tuple)

    def test_the_first_that_is_not_paid_is_told(self):
        for amounts, rest in (([80], 1), ([5, 5], 1), ([5, 5, 80], 1), ([80, 5, 7], 1), ([10, 10, 10], 1), ([4, 6], 1),
                              ([0, 30], 1), ([79, 0, 2], 2), ([50, 20, 9, MANY], MANY)):
            with self.subTest(amounts=amounts):
                self.assertEqual(told_each_way(paid, (PILE, amounts), ("pile", "amounts")), [no_pay(rest)] * 3)

    def test_rows_go_call_by_call(self):
        for pile in piles_up_to(8)[::2]:
            for amounts in itertools.product((0, 1, 2, 4), repeat=3):
                left, found = pile, []
                for amount in amounts:
                    paying = told(pay, left, amount)
                    found.append(paying)
                    if NoPay in paying:
                        break
                    left = take(left, paying)
                answer = told(paid, pile, list(amounts))
                self.assertEqual(answer, found[-1] if NoPay in found[-1] else (found, left))

    def test_sixty_amounts(self):
        pile = ((1, 60), (7, 60))
        self.assertEqual(paid(pile, [8] * 60), ([((1, 1), (7, 1))] * 60, ()))
        self.assertEqual(told(paid, pile, [8] * 61), no_pay(8))
        self.assertEqual(told(paid, pile, [1] * 60 + [7] * 59 + [8]), no_pay(1))


class TestWhatTheClerkKeeps(unittest.TestCase):
    def test_each_run_is_paid_and_what_is_left_serves_what_is_behind(self):
        for pile, right in itertools.product(piles_up_to(7), SMALL):
            if serves(pile, right):
                for name, amount in next_calls(right):
                    left = take(pile, pay(pile, amount))
                    self.assertIs(serves(left, behind(right, name, amount)), True)

    def test_what_was_served_beside_is_served_behind(self):
        beside = [calls_of(amounts) for total in range(1, 6) for amounts in lists_of(total, total)]
        for right in (("call", "x", 3, 2), ("one", (("call", "x", 4, 1), ("call", "y", 2, 2)))):
            for pile, other in itertools.product(piles_up_to(9)[30::3], beside):
                if serves(pile, ("all", (right, other))):
                    for name, amount in next_calls(right):
                        left = take(pile, pay(pile, amount))
                        self.assertIs(serves(left, ("all", (behind(right, name, amount), other))), True)


class TestRefusals(unittest.TestCase):
    def test_what_is_first_wrong_is_told(self):
        for row, place in one_or_more_wrong((PILE, 30), (NO_PILES, NO_NUMBERS)):
            self.assertEqual(told_each_way(pay, row, ("pile", "amount")), [((NoPile, NoNumber)[place], {})] * 3)

    def test_what_is_no_list_of_amounts(self):
        wrong_lists = [NO_LISTS + (nested(100000, list),)] + [
            tuple([bad] for bad in NO_NUMBERS), tuple([5, bad] for bad in NO_NUMBERS),
            tuple([5, bad, 3] for bad in NO_NUMBERS), ([5, [5]], [[]], [()], ["5"], [None], (5,), (5, 3))]
        for bads in wrong_lists:
            for row, place in one_or_more_wrong((PILE, [5, 3]), (NO_PILES[::5], bads)):
                self.assertEqual(told_each_way(paid, row, ("pile", "amounts")), [((NoPile, NoNumber)[place], {})] * 3)
        for thing in NO_PILES:
            self.assertEqual(told_each_way(paid, (thing, [5]), ("pile", "amounts")), [(NoPile, {})] * 3)

    def test_no_number_is_told_ahead_of_no_pay(self):
        for bad in NO_NUMBERS:
            self.assertEqual(told(paid, PILE, [80, bad]), (NoNumber, {}))
            self.assertEqual(told(paid, PILE, [80] * 59 + [bad]), (NoNumber, {}))
        self.assertEqual(told(pay, (), True), (NoNumber, {}))


class TestAnswersAreTheAskers(unittest.TestCase):
    def test_a_changed_list_changes_no_later_answer(self):
        amounts = [5, 3]
        first, second = paid(PILE, amounts), paid(PILE, amounts)
        self.assertIsNot(first[0], second[0])
        first[0].clear()
        amounts.append(MANY)
        self.assertEqual(second, ([((5, 1),), ((1, 3),)], ((1, 1), (10, 2), (50, 1))))
        self.assertEqual(paid(PILE, [5, 3]), second)
        paid(PILE, [])[0].append(1)
        self.assertEqual(paid(PILE, []), ([], PILE))

    def test_what_is_told_are_piles(self):
        found, left = paid(PILE, [0, 12, 51])
        for pile in found + [left]:
            self.assertIs(is_pile(pile), True)
        self.assertEqual(put(put(found[1], found[2]), left), PILE)


class TestSoon(unittest.TestCase):
    def test_great_rows_are_paid_soon(self):
        pile = tuple((5 ** power, 10 ** 9) for power in range(12))
        self.assertLess(seconds(lambda: paid(pile, [5 ** 12 - 1 - at for at in range(60)]), 3), seconds(count_up, 3))


if __name__ == "__main__":
    unittest.main()
