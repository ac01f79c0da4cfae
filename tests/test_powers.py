"""Points [22] to [25], and what [2], [3] and [4] say of tills held against tills."""

import itertools
import unittest

from blindtill.clerk import pay
from blindtill.costs import no_dearer
from blindtill.errors import NoNumber, NoPile, TooGreat
from blindtill.making import fewest
from blindtill.most import most
from blindtill.piles import is_pile, less, payings, put, take, whole
from blindtill.powers import alive, does_all, greatest, leanest, outdoes, power, telling_company, telling_right
from blindtill.rights import behind, is_right, trimmed
from blindtill.serving import serves
from runs import NONE, chance_rights, names_in, next_calls
from things import (
    NO_NUMBERS, NO_NUMBERS_FROM_1, NO_PILES, count_up, first_wrong, one_or_more_wrong, seconds, told, told_each_way)
from ways import calls_of, is_honoured, lists_of, pile_of, piles_up_to

MANY = 10 ** 12
PILE = ((1, 4), (5, 1), (10, 2), (50, 1))
SMALL_PILES = piles_up_to(8)
GREATER_PILES = (
    ((1, 3), (2, 2), (3, 2)), ((1, 5), (4, 2), (6, 1)), ((1, 2), (2, 3), (7, 1)), ((2, 3), (3, 2), (5, 1)),
    ((1, 1), (2, 1), (4, 1), (8, 1)), ((1, 7), (3, 1), (5, 1)), ((1, 14),), ((1, 2), (3, 3), (6, 1), (13, 2)), PILE,
    ((1, 40), (7, 5), (11, 3), (30, 2)), ((1, 1), (2, 99)), ((1, 10), (3, 10), (9, 10), (70, 1)), ((200, 1),),
    ((1, 200),))
GREAT_PILES = (((1, MANY), (10 ** 9, 5)), ((1, MANY), (2, MANY), (MANY, 3)), ((1, 10 ** 30), (10 ** 29, 9)),
               tuple((3 ** at, 3 ** at) for at in range(12)), tuple((5 ** at, 10 ** 9) for at in range(12)))
BOTH = ("one", "other")


def coins_of(pile):
    return sum(many for _, many in pile)


def power_by_most_even_lists(pile, below):
    """What power tells, by the words of point [22]: the most even list, cut at each worth, for each sum in its turn."""
    found = 0
    for total in range(whole(pile) + 1):
        if below is None:
            even = [total]
        else:
            even = [below - 1] * (total // (below - 1)) + [total % (below - 1)] if below > 1 else []
        if sum(even) == total and all(sum(min(call, worth - 1) for call in even) <= less(pile, worth)
                                      for worth, _ in pile if worth > 1):
            found = total
    return found


class TestPower(unittest.TestCase):
    def test_power(self):
        for pile, below, expected in (
                ((), None, 0), ((), 1, 0), ((), 9, 0), (((1, 5),), None, 5), (((1, 5),), 1, 0), (((1, 5),), 2, 5),
                (((2, 5),), None, 0), (((1, 1), (2, 1)), None, 3), (((1, 1), (2, 1)), 2, 1), (((1, 1), (2, 1)), 3, 2),
                (((1, 1), (2, 1)), 4, 3), (((1, 1), (3, 1)), None, 1), (((1, 2), (3, 1)), None, 5),
                (((1, 2), (3, 1)), 3, 2), (((1, 2), (3, 1)), 4, 3), (((1, 2), (3, 1)), 5, 4), (((1, 2), (3, 1)), 6, 5),
                (PILE, None, 29), (PILE, 2, 4), (PILE, 5, 4), (PILE, 6, 5), (PILE, 10, 9), (PILE, 11, 10),
                (PILE, 30, 29), (PILE, MANY, 29), (PILE[:3], None, 29), (((1, 9), (5, 1), (8, 1)), 6, 11),
                (((1, 9), (5, 1), (8, 1)), 9, 16), (((1, 9), (5, 1), (8, 1)), 10, 18)):
            with self.subTest(pile=pile, below=below):
                self.assertEqual(told_each_way(power, (pile,), ("pile",), below=below), [expected] * 2)
        self.assertEqual(power(PILE), 29)
        with self.assertRaises(TypeError):
            power(PILE, 5)

    def test_small_piles_against_all_lists_of_calls(self):
        for pile in piles_up_to(7):
            for below in [None] + list(range(1, whole(pile) + 3)):
                lists = [amounts for total in range(whole(pile) + 1)
                         for amounts in lists_of(total, total if below is None else below - 1)
                         if serves(pile, calls_of(amounts))]
                with self.subTest(pile=pile, below=below):
                    self.assertEqual(power(pile, below=below), max(map(sum, lists)))

    def test_small_piles_against_all_ways_of_paying(self):
        for pile in piles_up_to(5):
            for below in (None, 1, 2, 3, 4):
                sums = [total for total in range(whole(pile) + 1)
                        for amounts in lists_of(total, total if below is None else below - 1)
                        if is_honoured(pile, calls_of(amounts))]
                self.assertEqual(power(pile, below=below), max(sums))

    def test_piles_against_the_most_even_lists(self):
        for pile in SMALL_PILES + list(GREATER_PILES):
            for below in [None, 1, 2, 3, 4, 5, 6, 7, 8, 11, 12, 13, 14, 30, 31, whole(pile), whole(pile) + 1, MANY]:
                if below != 0:
                    with self.subTest(pile=pile, below=below):
                        self.assertEqual(power(pile, below=below), power_by_most_even_lists(pile, below))

    def test_no_right_that_is_served_has_a_greater_run(self):
        for pile, right in itertools.product(SMALL_PILES[::3] + list(GREATER_PILES), chance_rights(51, 20, 9)):
            if serves(pile, right):
                for below in (None, 1, 2, 3, 5):
                    self.assertLessEqual(most(right, below=below), power(pile, below=below))

    def test_great_numbers(self):
        pile = ((1, MANY), (10 ** 9, 5))
        for below, expected in ((None, MANY + 5 * 10 ** 9), (1, 0), (2, MANY), (10 ** 9, MANY),
                                # A thousand calls of 10 ** 9 of which each takes one less of the coins of 1.
                                (10 ** 9 + 1, 1000 * 10 ** 9 + 1000), (10 ** 30, MANY + 5 * 10 ** 9)):
            self.assertEqual(power(pile, below=below), expected)


class TestDoesAll(unittest.TestCase):
    def check(self, one, other):
        answers = told_each_way(does_all, (one, other), BOTH)
        rights = told_each_way(telling_right, (one, other), BOTH)
        with self.subTest(one=one, other=other, right=rights[0]):
            self.assertEqual(rights, [rights[0]] * 3)
            self.assertEqual(answers, [rights[0] is None] * 3)
            self.assertIsInstance(answers[0], bool)
            if rights[0] is not None:
                self.assertIs(is_right(rights[0]), True)
                self.assertIs(serves(other, rights[0]), True)
                self.assertIs(serves(one, rights[0]), False)

    def test_small_piles_against_all_lists_of_calls(self):
        piles = piles_up_to(7)
        served = {pile: [amounts for total in range(8) for amounts in lists_of(total, total)
                         if serves(pile, calls_of(amounts))] for pile in piles}
        for one, other in itertools.product(piles, piles):
            if does_all(one, other):
                self.assertTrue(all(amounts in served[one] for amounts in served[other]))

    def test_all_pairs_of_small_piles(self):
        for one, other in itertools.product(SMALL_PILES[::2], SMALL_PILES[1::2] + SMALL_PILES[::6]):
            self.check(one, other)

    def test_greater_piles(self):
        for one, other in itertools.product(GREATER_PILES + GREAT_PILES, GREATER_PILES + GREAT_PILES):
            self.check(one, other)

    def test_by_the_sums_of_each_worth(self):
        for one, other in itertools.product(GREATER_PILES + GREAT_PILES + ((),), GREATER_PILES + GREAT_PILES + ((),)):
            expected = all(less(one, worth) >= power(other, below=worth) for worth, _ in one if worth > 1)
            self.assertIs(does_all(one, other), expected and whole(one) >= power(other))

    def test_does_all(self):
        for one, other, expected in (
                ((), (), True), ((), ((2, 9),), True), ((), ((1, 1),), False), (((1, 3),), ((1, 1), (2, 1)), True),
                (((1, 1), (2, 1)), ((1, 3),), False), (((1, 3), (9, 1)), ((1, 3),), True),
                (((1, 3), (4, 1)), ((1, 4),), False), (((1, 4), (9, 1)), PILE, False), (PILE[:3], PILE, True),
                (PILE, PILE[:3], True), (((1, 6), (4, 1)), ((1, 4), (3, 1)), True),
                (((1, 5), (4, 1)), ((1, 4), (3, 1)), False),
                (((1, 4), (4, 1)), ((1, 3), (3, 1)), True),
                (((1, 3), (4, 1)), ((1, 3), (3, 1)), False)):
            with self.subTest(one=one, other=other):
                self.check(one, other)
                self.assertIs(does_all(one, other), expected)

    def test_against_all_ways_of_paying(self):
        piles = piles_up_to(5)
        for one, other in itertools.product(piles, piles):
            right = telling_right(one, other)
            if right is not None:
                self.assertIs(is_honoured(other, right), True)
                self.assertIs(is_honoured(one, right), False)


class TestGreatest(unittest.TestCase):
    def test_greatest(self):
        for pile, expected in (
                ((), NONE), (((2, 5),), NONE), (((1, 1),), ("call", "a", 1, 1)),
                (((1, 1), (3, 5)), ("call", "a", 1, 1)),
                (((1, 2),), ("one", (("call", "a", 1, 2), ("call", "b", 2, 1)))),
                (((1, 1), (2, 1)), ("one", (("call", "a", 1, 1), ("call", "b", 2, 1), ("call", "c", 3, 1)))),
                (((1, 3),), ("one", (
                    ("call", "a", 1, 3), ("all", (("call", "b", 2, 1), ("call", "c", 1, 1))), ("call", "d", 3, 1))))):
            with self.subTest(pile=pile):
                self.assertEqual(told_each_way(greatest, (pile,), ("pile",)), [expected] * 2)

    def test_row_by_row(self):
        letters = "abcdefghijklmnopqrstuvwxyz"
        for pile in SMALL_PILES + list(GREATER_PILES):
            own = iter(list(letters) + [first + second for first in letters for second in letters])
            rows = []
            for below in range(2, power(pile) + 2):
                total = power(pile, below=below)
                lots = [(below - 1, total // (below - 1)), (total % (below - 1), 1)]
                calls = tuple(("call", next(own), *lot) for lot in lots if lot[0] and lot[1])
                rows += [calls[0] if len(calls) == 1 else ("all", calls)] if calls else []
            expected = NONE if not rows else rows[0] if len(rows) == 1 else ("one", tuple(rows))
            with self.subTest(pile=pile):
                self.assertEqual(told(greatest, pile), expected)

    def test_it_is_served_and_no_right_that_is_served_is_dearer(self):
        rights = chance_rights(52, 15, 8)[::2]
        for pile in SMALL_PILES[::4] + list(GREATER_PILES):
            right = greatest(pile)
            self.assertIs(is_right(right), True)
            self.assertEqual(trimmed(right), right)
            self.assertIs(serves(pile, right), True)
            for other in rights if whole(pile) < 40 else rights[::20]:
                with self.subTest(pile=pile, other=other):
                    self.assertTrue(not serves(pile, other) or no_dearer(other, right))
        for one, other in itertools.product(SMALL_PILES[::5], SMALL_PILES[::3]):
            self.assertIs(does_all(one, other), serves(one, greatest(other)))

    def test_great_ones(self):
        right = greatest(((1, 200),))
        self.assertEqual(len(right[1]), 200)
        self.assertEqual((right[1][0], right[1][-1][1:]), (("call", "a", 1, 200), (names_in(right)[-1], 200, 1)))
        self.assertEqual(len(set(names_in(right))), len(names_in(right)))
        self.assertEqual(names_in(right)[25:28], ["z", "aa", "ab"])
        for asked in (greatest, leanest):
            for pile in (((1, 201),), ((201, 1),), ((1, 100), (101, 1)), ((2, 101),), ((MANY, MANY),)):
                self.assertEqual(told_each_way(asked, (pile,), ("pile",)), [(TooGreat, {})] * 2)


class TestAlive(unittest.TestCase):
    def test_alive(self):
        for pile, expected in (
                ((), ()), (((1, 1),), ((1, 1),)), (((2, 1),), ()), (((2, 1), (3, 1)), ()), (((1, 1), (2, 1)),) * 2,
                (((1, 1), (3, 1)), ((1, 1),)), (((1, 1), (3, 1), (4, 9)), ((1, 1),)), (((1, 2), (3, 1)),) * 2,
                (PILE, PILE[:3]), (((1, 4), (5, 1), (10, 2), (30, 1)),) * 2,
                (((1, 4), (5, 1), (10, 2), (31, 1)), PILE[:3]),
                (((1, 4), (5, 1), (11, 2), (12, 1)), ((1, 4), (5, 1))), (((1, MANY), (MANY + 1, 1)),) * 2,
                (((1, MANY), (MANY + 2, 1)), ((1, MANY),))):
            with self.subTest(pile=pile):
                self.assertEqual(told_each_way(alive, (pile,), ("pile",)), [expected] * 2)

    def test_by_the_words(self):
        for pile in SMALL_PILES + list(GREATER_PILES + GREAT_PILES):
            least = min([worth for worth, _ in pile if worth - 1 > less(pile, worth)], default=10 ** 40)
            self.assertEqual(alive(pile), tuple((worth, many) for worth, many in pile if worth < least))

    def test_no_clerk_pays_with_a_dead_coin_while_what_is_served_is_called(self):
        for pile, right in itertools.product(SMALL_PILES[::2], chance_rights(53, 8, 3)[::6]):
            if serves(pile, right):
                dead = take(pile, alive(pile))
                for name, amount in next_calls(right):
                    self.assertIs(serves(take(pile, pay(pile, amount)), behind(right, name, amount)), True)
                    for paying in payings(pile, amount):
                        self.assertEqual([lot for lot in paying if lot[0] in dict(dead)], [])
                self.assertIs(serves(alive(pile), right), True)


class TestLeanest(unittest.TestCase):
    def test_leanest(self):
        for pile, expected in (
                ((), ()), (((2, 1),), ()), (((1, 1),), ((1, 1),)), (((1, 2),), ((1, 2),)), (((1, 3),), ((1, 3),)),
                (((1, 1), (2, 1)), ((1, 1), (2, 1))), (((1, 1), (3, 1)), ((1, 1),)), (((1, 200),), ((1, 200),))):
            answers = told_each_way(leanest, (pile,), ("pile",))
            self.assertEqual([coins_of(answer) for answer in answers], [coins_of(expected)] * 2)
            self.assertIs(does_all(answers[0], pile), True)

    def test_it_does_all_and_no_pile_of_fewer_coins_does(self):
        piles = sorted(piles_up_to(10), key=coins_of)
        for pile in SMALL_PILES:
            answer = leanest(pile)
            with self.subTest(pile=pile, answer=answer):
                self.assertIs(is_pile(answer), True)
                self.assertIs(does_all(answer, pile), True)
                first = next(other for other in piles if does_all(other, pile))
                self.assertEqual(coins_of(answer), coins_of(first))

    def test_greater_piles_by_the_rule(self):
        for pile in SMALL_PILES + list(GREATER_PILES):
            coins = []
            while sum(coins) < power(pile):
                coins.append(max(worth for worth in range(1, whole(pile) + 2)
                                 if power(pile, below=worth) <= sum(coins)))
            answer = leanest(pile)
            self.assertEqual(answer, pile_of(coins))
            self.assertIs(does_all(answer, pile), True)
            self.assertLessEqual(coins_of(answer), coins_of(pile))
            self.assertEqual(answer, fewest(greatest(pile)))


class TestOutdoes(unittest.TestCase):
    def check(self, one, other):
        top = max([worth for worth, _ in one + other], default=0)
        places = range(2, top + 2) if top < 300 else [worth + 1 for worth, _ in other]
        expected = all(less(one, place) >= less(other, place) for place in places)
        with self.subTest(one=one, other=other):
            answers = told_each_way(outdoes, (one, other), BOTH)
            self.assertEqual(answers, [expected] * 3)
            self.assertIsInstance(answers[0], bool)
            if whole(one) <= 200 and whole(other) <= 200:
                shown = told_each_way(telling_company, (one, other), BOTH)
                self.assertEqual(shown, [shown[0]] * 3)
                self.assertIs(shown[0] is None, expected)
                if shown[0] is not None:
                    self.assertIs(type(shown[0]), tuple)
                    pile, right = shown[0]
                    self.assertIs(is_pile(pile), True)
                    self.assertIs(is_right(right), True)
                    self.assertIs(serves(put(other, pile), right), True)
                    self.assertIs(serves(put(one, pile), right), False)

    def test_all_pairs_of_small_piles(self):
        for one, other in itertools.product(SMALL_PILES[::2], SMALL_PILES[1::3] + SMALL_PILES[::6]):
            self.check(one, other)

    def test_greater_piles(self):
        for one, other in itertools.product(GREATER_PILES + GREAT_PILES, GREATER_PILES + GREAT_PILES):
            self.check(one, other)

    def test_outdoes(self):
        for one, other, expected in (
                ((), (), True), (((1, 1),), (), True), ((), ((1, 1),), False), ((), ((5, 1),), False),
                (((1, 2),), ((2, 1),), True), (((2, 1),), ((1, 2),), False), (((1, 3),), ((1, 1), (2, 1)), True),
                (((2, 2),), ((3, 1),), True), (((2, 1),), ((3, 1),), False), (((1, 1), (2, 1)), ((3, 1),), True),
                (((1, 1), (4, 9)), ((3, 1),), False), (((200, 1),), ((199, 1),), False),
                (((199, 1),), ((200, 1),), False),
                (((1, 1), (199, 1)), ((200, 1),), True), (((1, MANY),), ((MANY, 1),), True),
                (((1, MANY - 1), (MANY + 1, 9)), ((MANY, 1),), False)):
            self.check(one, other)
            self.assertIs(outdoes(one, other), expected)

    def test_in_every_company(self):
        rights = chance_rights(54, 8, 4)[::3]
        company = piles_up_to(4)
        for one, other in itertools.product(piles_up_to(5), piles_up_to(5)):
            if outdoes(one, other):
                for pile, right in itertools.product(company[::2], rights[::5]):
                    self.assertTrue(serves(put(one, pile), right) or not serves(put(other, pile), right))

    def test_what_outdoes_does_all(self):
        for one, other in itertools.product(SMALL_PILES, SMALL_PILES[::3]):
            self.assertTrue(does_all(one, other) or not outdoes(one, other))

    def test_too_great(self):
        for pile in (((1, 201),), ((201, 1),), ((MANY, MANY),)):
            for row in ((pile, PILE), (PILE, pile), (pile, pile)):
                self.assertEqual(told_each_way(telling_company, row, BOTH), [(TooGreat, {})] * 3)
                self.assertIsInstance(told(outdoes, *row), bool)


class TestRefusals(unittest.TestCase):
    def test_what_is_no_pile(self):
        for asked in (greatest, alive, leanest, power):
            for thing in NO_PILES:
                self.assertEqual(told_each_way(asked, (thing,), ("pile",)), [(NoPile, {})] * 2)
        few = NO_PILES[::9]
        for asked in (does_all, telling_right, outdoes, telling_company):
            for bads in ((few, few), (NO_PILES, ()), ((), NO_PILES)):
                for answers, expected in first_wrong(asked, BOTH, (PILE, ((1, 1),)), bads, (NoPile, NoPile)):
                    self.assertEqual(answers, expected)
            # Told ahead of TooGreat.
            for row, _ in one_or_more_wrong((((1, 201),), ((1, 201),)), (few, few)):
                self.assertEqual(told(asked, *row), (NoPile, {}))

    def test_what_is_no_number(self):
        for bad in NO_NUMBERS_FROM_1[1:] + (-1, 0):
            self.assertEqual(told_each_way(power, (PILE,), ("pile",), below=bad), [(NoNumber, {})] * 2)
            self.assertEqual(told(power, (), below=bad), (NoNumber, {}))
            self.assertEqual(told(power, ((1, 1), 1), below=bad), (NoPile, {}))
        self.assertIsNone(NO_NUMBERS[0])
        self.assertEqual(told(power, PILE, below=1), 0)


class TestSoon(unittest.TestCase):
    def test_great_piles_are_told_of_soon(self):
        for one, other in itertools.product(GREAT_PILES, GREAT_PILES):
            for work in (lambda: power(one, below=10 ** 9), lambda: does_all(one, other), lambda: outdoes(one, other),
                         lambda: told(telling_right, one, other), lambda: alive(one)):
                self.assertLess(seconds(work, 2), seconds(count_up, 3) / 2)

    def test_small_piles_are_told_of_soon(self):
        for pile in (((1, 200),), ((1, 100), (100, 1)), ((1, 9), (2, 10), (10, 9)),
                     tuple((at, 2) for at in range(1, 13))):
            for work in (lambda: greatest(pile), lambda: leanest(pile), lambda: telling_company(((200, 1),), pile)):
                self.assertLess(seconds(work, 2), 10 * seconds(count_up, 3))


if __name__ == "__main__":
    unittest.main()
