"""Points [15] and [16], and what [2], [3] and [4] say of safe payings."""

import unittest

from blindtill.clerk import pay
from blindtill.errors import NoCoins, NoNumber, NoPay, NoPile, TooGreat
from blindtill.most import most
from blindtill.piles import less, payings, put, take, whole
from blindtill.rights import behind, is_right, may
from blindtill.safe import allow, is_safe, safe_payings, telling_call
from blindtill.serving import serves
from things import (
    NO_NUMBERS, NO_NUMBERS_FROM_1, NO_PILES, count_up, one_or_more_wrong, seconds, told, told_each_way)
from ways import calls_of, is_honoured, lists_of, piles_up_to, piles_within

MANY = 10 ** 12
PILE = ((1, 4), (5, 1), (10, 2), (50, 1))
GREATER_PILES = (
    ((1, 3), (2, 2), (3, 2)), ((1, 5), (4, 2), (6, 1)), ((1, 2), (2, 3), (7, 1)), ((2, 3), (3, 2), (5, 1)),
    ((1, 1), (2, 1), (4, 1), (8, 1)), ((1, 7), (3, 1), (5, 1)), ((3, 5),), ((1, 14),))
TIMES_TWO = ((1, 62), (2, 4), (3, 4), (4, 4), (5, 1), (6, 1), (7, 1), (8, 1))


def lists_served(pile, amount, below=None):
    """The lists of amounts, each less than below, whose calls the pile serves beside a call of up to the amount."""
    return [amounts for total in range(max(0, whole(pile) - amount) + 1)
            for amounts in lists_of(total, total if below is None else below - 1)
            if serves(pile, calls_of([amount] + amounts))]


def allow_by_most_even_lists(pile, amount, below):
    """What allow tells, by the words of point [15]: the most even list, cut at each worth, for each sum in its turn."""
    least = [less(pile, worth) - min(amount, worth - 1) for worth, _ in pile if worth > 1]
    if whole(pile) < amount or min(least, default=0) < 0:
        return None
    found = 0
    for total in range(whole(pile) - amount + 1):
        even = [total] if below is None else [below - 1] * (total // (below - 1)) + [total % (below - 1)]
        rooms = [(worth, room) for (worth, _), room in zip([lot for lot in pile if lot[0] > 1], least)]
        if all(sum(min(call, worth - 1) for call in even) <= room for worth, room in rooms):
            found = total
    return found


class TestAllow(unittest.TestCase):
    def test_allow(self):
        for pile, amount, below, expected in (
                ((), 1, None, None), (((1, 1),), 1, None, 0), (((1, 1),), 2, None, None), (((1, 5),), 2, None, 3),
                (((1, 5),), 2, 2, 3), (((2, 1),), 1, None, None), (((2, 1),), 2, None, None),
                (((1, 1), (2, 1)), 1, None, 0), (((1, 1), (2, 1)), 3, None, 0), (((1, 2), (2, 1)), 1, None, 3),
                (((1, 2), (2, 1)), 1, 2, 1), (((1, 2), (2, 1)), 1, 3, 2), (((1, 2), (2, 1)), 1, 4, 3),
                (((1, 2), (2, 1)), 1, 5, 3), (((1, 2), (2, 1)), 2, None, 2), (((1, 2), (2, 1)), 4, None, 0),
                (((1, 2), (2, 1)), 5, None, None), (PILE, 5, None, 0), (PILE, 4, None, 0), (PILE, 3, None, 1),
                (((1, 9), (5, 1)), 5, None, 9), (((1, 9), (5, 1)), 5, 2, 5), (((1, 9), (5, 1)), 5, 3, 5),
                (((1, 9), (5, 1)), 5, 5, 5), (((1, 9), (5, 1)), 5, 6, 6), (((1, 9), (5, 1)), 5, 7, 7),
                (((1, 9), (5, 1)), 5, 10, 9)):
            with self.subTest(pile=pile, amount=amount, below=below):
                answers = told_each_way(allow, (pile, amount), ("pile", "amount"), below=below)
                self.assertEqual(answers, [expected] * 3)
        self.assertEqual(allow(((1, 2), (2, 1)), 1), 3)
        with self.assertRaises(TypeError):
            allow(PILE, 5, 3)

    def test_small_piles_against_all_lists_of_calls(self):
        for pile in piles_up_to(8) + list(GREATER_PILES[:4]):
            for amount in range(1, whole(pile) + 2):
                for below in [None] + list(range(2, whole(pile) + 3)):
                    lists = lists_served(pile, amount, below)
                    expected = max(map(sum, lists)) if lists else None
                    with self.subTest(pile=pile, amount=amount, below=below):
                        self.assertEqual(allow(pile, amount, below=below), expected)

    def test_small_piles_against_all_ways_of_paying(self):
        for pile in piles_up_to(5):
            for amount in range(1, whole(pile) + 2):
                for below in (None, 2, 3, 4):
                    sums = [total for total in range(max(0, whole(pile) - amount) + 1)
                            for amounts in lists_of(total, total if below is None else below - 1)
                            if is_honoured(pile, calls_of([amount] + amounts))]
                    self.assertEqual(allow(pile, amount, below=below), max(sums, default=None))

    def test_greater_piles_against_the_most_even_lists(self):
        for pile in GREATER_PILES + (PILE, TIMES_TWO, ((1, 40), (7, 5), (11, 3), (30, 2)), ((2, 50), (9, 9))):
            for amount in (1, 2, 5, 6, 7, 10, 11, 30, whole(pile) - 1, whole(pile), whole(pile) + 1):
                for below in (None, 2, 3, 5, 6, 7, 8, 11, 12, 30, 31, whole(pile), whole(pile) + 1, MANY):
                    with self.subTest(pile=pile, amount=amount, below=below):
                        expected = allow_by_most_even_lists(pile, amount, below)
                        self.assertEqual(allow(pile, amount, below=below), expected)

    def test_great_numbers(self):
        pile = ((1, MANY), (10 ** 9, MANY))
        total = whole(pile)
        for amount, below, expected in (
                (1, None, total - 1), (MANY, None, total - MANY), (total, None, 0), (total + 1, None, None),
                (10 ** 9, 2, MANY - 10 ** 9 + 1), (10 ** 9, 10 ** 9, MANY - 10 ** 9 + 1),
                # 999 calls of 10 ** 9, of which each takes one less of the coins of 1, and 1000 of these are left.
                (10 ** 9, 10 ** 9 + 1, 999 * 10 ** 9 + 1000), (10 ** 30, None, None), (1, 10 ** 30, total - 1)):
            with self.subTest(amount=amount, below=below):
                self.assertEqual(allow(pile, amount, below=below), expected)


class TestIsSafe(unittest.TestCase):
    def test_safe_and_not_safe(self):
        pile = ((1, 6), (5, 1))
        for paying, expected in ((((5, 1),), True), (((1, 5),), False), (((1, 6), (5, 1)), True), (((1, 1),), True),
                                 (((1, 2),), True), (((1, 6),), False), (((1, 1), (5, 1)), True)):
            with self.subTest(paying=paying):
                self.assertEqual(told_each_way(is_safe, (pile, paying), ("pile", "paying")), [expected] * 3)
                self.assertIs(is_safe(pile, paying), expected)
                self.assertIs(telling_call(pile, paying) is None, expected)

    def test_where_no_such_call_is_served_each_paying_is_safe(self):
        for pile, paying in ((((2, 3),), ((2, 1),)), (((2, 1), (3, 2)), ((2, 1), (3, 1))),
                             (((1, 1), (3, 2)), ((1, 1), (3, 1)))):
            self.assertIsNone(allow(pile, whole(paying)))
            self.assertIs(is_safe(pile, paying), True)
            self.assertIsNone(telling_call(pile, paying))

    def test_small_piles_against_all_lists_of_calls(self):
        for pile in piles_up_to(8) + list(GREATER_PILES):
            served = {amount: lists_served(pile, amount) for amount in range(1, whole(pile) + 1)}
            for paying in piles_within(pile):
                if paying:
                    left = take(pile, paying)
                    expected = all(serves(left, calls_of(amounts)) for amounts in served[whole(paying)])
                    with self.subTest(pile=pile, paying=paying):
                        self.assertIs(is_safe(pile, paying), expected)

    def test_the_blind_clerk_pays_safely(self):
        for pile in piles_up_to(9) + list(GREATER_PILES) + [PILE, TIMES_TWO]:
            for amount in range(1, whole(pile) + 1):
                paying = told(pay, pile, amount)
                if NoPay not in paying:
                    self.assertIs(is_safe(pile, paying), True)

    def test_great_piles(self):
        pile = ((1, MANY), (10 ** 9, 5))
        self.assertIs(is_safe(pile, ((10 ** 9, 1),)), True)
        self.assertIs(is_safe(pile, ((1, 10 ** 9),)), False)
        self.assertIs(is_safe(pile, ((1, 10 ** 9), (10 ** 9, 4))), False)
        self.assertIs(is_safe(pile, ((1, 10 ** 9), (10 ** 9, 5))), True)
        self.assertIs(is_safe(pile, pile), True)


class TestTellingCall(unittest.TestCase):
    def check(self, pile, paying):
        answers = told_each_way(telling_call, (pile, paying), ("pile", "paying"))
        self.assertEqual(answers, [answers[0]] * 3)
        right = answers[0]
        with self.subTest(pile=pile, paying=paying, right=right):
            self.assertIs(right is None, is_safe(pile, paying))
            if right is not None:
                self.assertIs(is_right(right), True)
                self.assertGreaterEqual(may(right, "a"), whole(paying))
                self.assertIs(serves(pile, right), True)
                self.assertIs(serves(take(pile, paying), behind(right, "a", whole(paying))), False)

    def test_small_piles(self):
        for pile in piles_up_to(9) + list(GREATER_PILES):
            for paying in piles_within(pile):
                if paying:
                    self.check(pile, paying)

    def test_great_piles(self):
        for pile in (((1, MANY), (10 ** 9, 5)), ((1, MANY), (2, MANY), (MANY, 3)), ((1, 10 ** 30), (10 ** 29, 9)),
                     ((1, 90), (7, 40), (50, 4), (99, 3)), tuple((3 ** power, 3 ** power) for power in range(12))):
            for paying in piles_within(tuple((worth, 2) for worth, _ in pile)[:6]):
                if paying and paying[-1][1] <= pile[-1][1] and paying[0][1] <= pile[0][1]:
                    self.check(pile, paying)
            first, last = pile[0], pile[-1]
            for many in (last[0], last[0] - 1, last[0] + 1, first[1] // 2, first[1] - 1, first[1]):
                if 0 < many <= first[1]:
                    self.check(pile, ((1, many),))
                    self.check(pile, ((1, many), (last[0], 1)))

    def test_what_is_told_is_not_honoured_by_any_way_of_paying(self):
        told_of = 0
        for pile in piles_up_to(7):
            for paying in piles_within(pile):
                right = telling_call(pile, paying) if paying else None
                if right is not None:
                    told_of += 1
                    self.assertIs(is_honoured(pile, right), True)
                    self.assertIs(is_honoured(take(pile, paying), behind(right, "a", whole(paying))), False)
        self.assertGreater(told_of, 20)


class TestSafePayings(unittest.TestCase):
    def test_safe_payings(self):
        for pile, amount, expected in (
                ((), 1, []), (PILE, 5, [((5, 1),)]), (((1, 6), (5, 1)), 5, [((5, 1),)]),
                (((1, 3), (2, 1)), 2, [((2, 1),)]),
                (((2, 2), (3, 2)), 5, [((2, 1), (3, 1))]), (((2, 3), (3, 2)), 6, [((2, 3),), ((3, 2),)]),
                (((1, 9), (5, 1)), 14, [((1, 9), (5, 1))]), (((1, 2), (2, 2)), 3, [((1, 1), (2, 1))]),
                (((1, 2), (2, 2)), 2, [((2, 1),)]), (((1, 2),), 3, []), (((1, 2),), MANY, []), (((200, 1),), 1, [])):
            with self.subTest(pile=pile, amount=amount):
                self.assertEqual(told_each_way(safe_payings, (pile, amount), ("pile", "amount")), [expected] * 3)

    def test_they_are_those_of_payings_that_are_safe(self):
        for pile in piles_up_to(9) + list(GREATER_PILES):
            for amount in range(1, whole(pile) + 3):
                safe = [paying for paying in payings(pile, amount) if is_safe(pile, paying)]
                self.assertEqual(safe_payings(pile, amount), safe)
        safe = [paying for paying in payings(TIMES_TWO, 30) if is_safe(TIMES_TWO, paying)]
        self.assertEqual(safe_payings(TIMES_TWO, 30), safe)

    def test_too_great(self):
        for pile, amount in ((((1, 201),), 1), (((201, 1),), MANY), (((1, 100), (101, 1)), 202)):
            self.assertEqual(told_each_way(safe_payings, (pile, amount), ("pile", "amount")), [(TooGreat, {})] * 3)
        pile = tuple((worth, 2) for worth in range(1, 12))
        self.assertEqual(told(safe_payings, pile, 66), (TooGreat, {}))
        self.assertEqual(told(safe_payings, pile, 132), [pile])
        self.assertEqual(len(payings(TIMES_TWO, 62)), 2000)
        self.assertIs(type(told(safe_payings, TIMES_TWO, 62)), list)
        self.assertEqual(told(safe_payings, put(TIMES_TWO, ((9, 1),)), 62), (TooGreat, {}))


class TestRefusals(unittest.TestCase):
    def test_what_is_first_wrong_is_told(self):
        few = NO_PILES[::7]
        for goods, bads in (((PILE, 5, 3), (few, NO_NUMBERS_FROM_1[::3], ())),
                            ((PILE, 5, 3), (few, (), NO_NUMBERS_FROM_1[1:] + (1,))),
                            ((PILE, 80, 2), (NO_PILES, NO_NUMBERS_FROM_1, (1, True)))):
            for (pile, amount, below), place in one_or_more_wrong(goods, bads):
                answers = told_each_way(allow, (pile, amount), ("pile", "amount"), below=below)
                self.assertEqual(answers, [((NoNumber if place else NoPile), {})] * 3)
        for row, place in one_or_more_wrong((PILE, 5), (NO_PILES, NO_NUMBERS_FROM_1)):
            answers = told_each_way(safe_payings, row, ("pile", "amount"))
            self.assertEqual(answers, [((NoPile, NoNumber)[place], {})] * 3)

    def test_what_is_no_pile_or_no_paying(self):
        for asked in (is_safe, telling_call):
            for row, _ in one_or_more_wrong((PILE, ((5, 1),)), (NO_PILES[::9], NO_PILES + ((),))):
                self.assertEqual(told_each_way(asked, row, ("pile", "paying")), [(NoPile, {})] * 3)
            for thing in NO_PILES:
                self.assertEqual(told(asked, thing, ((5, 1),)), (NoPile, {}))
            self.assertEqual(told(asked, (), ()), (NoPile, {}))

    def test_too_few_coins(self):
        for paying, worth in ((((1, 5),), 1), (((2, 1),), 2), (((5, 2),), 5), (((1, 4), (5, 2), (10, 3)), 5),
                              (((60, 1),), 60), (((1, 5), (60, 1)), 1), (((MANY, MANY),), MANY)):
            for asked in (is_safe, telling_call):
                answers = told_each_way(asked, (PILE, paying), ("pile", "paying"))
                self.assertEqual(answers, [(NoCoins, {"worth": worth})] * 3)
        self.assertEqual(told(is_safe, (), ((3, 1),)), (NoCoins, {"worth": 3}))
        self.assertEqual(told(telling_call, (), ((3, 1),)), (NoCoins, {"worth": 3}))

    def test_no_number_is_told_ahead_of_too_great(self):
        for bad in NO_NUMBERS + (0,):
            self.assertEqual(told(safe_payings, ((1, 201),), bad), (NoNumber, {}))
            self.assertEqual(told(allow, (), bad), (NoNumber, {}))

    def test_numbers_at_their_edges(self):
        self.assertEqual(told(allow, PILE, 1, below=1), (NoNumber, {}))
        self.assertEqual(told(allow, PILE, 0, below=2), (NoNumber, {}))
        self.assertEqual(told(allow, PILE, 1, below=2), 3)
        self.assertEqual(told(allow, (), 1, below=1), (NoNumber, {}))


class TestAnswersAreTheAskers(unittest.TestCase):
    def test_a_changed_list_changes_no_later_answer(self):
        first, second = safe_payings(PILE, 5), safe_payings(PILE, 5)
        self.assertIsNot(first, second)
        first.clear()
        self.assertEqual(second, [((5, 1),)])
        self.assertEqual(safe_payings(PILE, 5), second)
        safe_payings((), 1).append(1)
        self.assertEqual(safe_payings((), 1), [])

    def test_what_is_told_may_be_handed_in_again(self):
        pile = ((1, MANY), (2, MANY), (MANY, 3))
        right = telling_call(pile, ((1, MANY),))
        self.assertIs(serves(pile, right), True)
        self.assertLessEqual(most(right), whole(pile))


class TestSoon(unittest.TestCase):
    def test_safe_payings_are_told_soon(self):
        # Each of 2,000 is looked at in a small part of what it takes to make and judge it by itself.
        self.assertLess(seconds(lambda: safe_payings(TIMES_TWO, 62), 3), 5 * seconds(count_up, 3))

    def test_great_piles_are_told_of_soon(self):
        pile = tuple((5 ** power, 10 ** 9) for power in range(12))
        paying = tuple((5 ** power, 3) for power in range(12))
        for work in (lambda: allow(pile, MANY, below=MANY), lambda: is_safe(pile, paying),
                     lambda: telling_call(pile, ((1, 10 ** 9),))):
            self.assertLess(seconds(work, 3), seconds(count_up, 3) / 2)


if __name__ == "__main__":
    unittest.main()
