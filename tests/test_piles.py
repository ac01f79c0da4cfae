"""Points [5] and [6], and what [2], [3] and [4] say of piles."""

import itertools
import unittest

from blindtill.errors import NoCoins, NoNumber, NoPile, TooGreat
from blindtill.piles import is_pile, less, payings, put, take, whole
from things import NO_NUMBERS, NO_NUMBERS_FROM_1, NO_PILES, one_or_more_wrong, seconds, told, told_each_way

MANY = 10 ** 12
PILES = (
    (), ((1, 1),), ((1, 3),), ((5, 1),), ((5, 4),), ((1, 2), (2, 1)), ((1, 1), (3, 2), (4, 1)), ((2, 3), (5, 1)),
    ((1, 4), (5, 1), (10, 2), (50, 1)), ((MANY, 1),), ((1, MANY),), ((1, MANY), (MANY, MANY)),
    ((10 ** 30, 10 ** 40), (10 ** 31, 1)), tuple((worth, worth) for worth in range(1, 40)))

# The pile, an amount and how many payings of it there are.
JUST_2000 = (((1, 4), (2, 7), (3, 4), (4, 6), (6, 5), (11, 3), (14, 5)), 70)
JUST_2001 = (((1, 6), (3, 6), (4, 6), (5, 6), (9, 3), (11, 4), (15, 2)), 81)

# Just 2,000, too, of a pile in which far more piles lie; and a pile of which the half has far more payings.
MANY_ONES = (((1, 62), (2, 4), (3, 4), (4, 4), (5, 1), (6, 1), (7, 1), (8, 1)), 62)
TWO_OF_EACH = tuple((worth, 2) for worth in range(1, 12))


def coins_of(pile):
    return [worth for worth, many in pile for _ in range(many)]


def made_of(coins):
    return tuple((worth, coins.count(worth)) for worth in sorted(set(coins)))


def payings_by_all_counts(pile, amount):
    found = []
    for counts in itertools.product(*[range(many + 1) for _, many in pile]):
        lots = [(worth, count) for (worth, _), count in zip(pile, counts)]
        if sum(worth * count for worth, count in lots) == amount:
            found.append(tuple(lot for lot in lots if lot[1] > 0))
    return sorted(found)


def payings_by_plain_tables(pile, amount):
    """The payings, counted and listed plainly: each sum by each number of coins, each paying by itself."""
    counts = [[1] + [0] * amount]
    for worth, many in reversed(pile):
        ahead = counts[-1]
        counts.append([sum([ahead[total - worth * coins] for coins in range(min(many, total // worth) + 1)])
                       for total in range(amount + 1)])
    counts.reverse()
    if counts[0][amount] > 2000:
        return counts[0][amount]
    begun = [((), amount)]
    for place, (worth, many) in enumerate(pile):
        begun = [(paying + ((worth, coins),) if coins else paying, rest - worth * coins)
                 for paying, rest in begun for coins in range(min(many, rest // worth) + 1)
                 if counts[place + 1][rest - worth * coins]]
    return sorted([paying for paying, _ in begun])


def payings_or_none(pile, amount):
    try:
        return payings(pile, amount)
    except TooGreat:
        return None


class TestIsPile(unittest.TestCase):
    def test_piles(self):
        for pile in PILES:
            with self.subTest(pile=pile):
                self.assertIs(is_pile(pile), True)
                self.assertIs(is_pile(thing=pile), True)

    def test_no_piles(self):
        for at, thing in enumerate(NO_PILES):
            with self.subTest(at=at):
                self.assertIs(told(is_pile, thing), False)

    def test_more_than_twelve_worths_are_no_fault(self):
        self.assertIs(is_pile(tuple((worth, 1) for worth in range(1, 1000))), True)

    def test_the_last_of_many_lots_is_looked_at(self):
        lots = tuple((worth, 1) for worth in range(1, 1000))
        for last in ((999, 1), (1, 1), (1000, 0), (1000, True), (1000,), [1000, 1], None):
            with self.subTest(last=last):
                self.assertIs(is_pile(lots + (last,)), False)


class TestSums(unittest.TestCase):
    def test_whole(self):
        for pile, expected in (((), 0), (((1, 1),), 1), (((5, 4),), 20), (((1, 4), (5, 1), (10, 2)), 29),
                               (((1, MANY), (MANY, MANY)), MANY + MANY * MANY)):
            with self.subTest(pile=pile):
                self.assertEqual(told_each_way(whole, (pile,), ("pile",)), [expected] * 2)

    def test_less(self):
        pile = ((1, 4), (5, 1), (10, 2))
        for worth, expected in ((1, 0), (2, 4), (4, 4), (5, 4), (6, 9), (10, 9), (11, 29), (MANY, 29), (10 ** 30, 29)):
            with self.subTest(worth=worth):
                self.assertEqual(told_each_way(less, (pile, worth), ("pile", "worth")), [expected] * 3)

    def test_less_of_nothing_and_of_much(self):
        self.assertEqual(less((), 1), 0)
        self.assertEqual(less((), MANY), 0)
        self.assertEqual(less(((1, MANY), (MANY, MANY)), MANY), MANY)
        self.assertEqual(less(((1, MANY), (MANY, MANY)), MANY + 1), MANY + MANY * MANY)

    def test_sums_are_those_of_the_coins(self):
        for pile in PILES[:9]:
            self.assertEqual(whole(pile), sum(coins_of(pile)))
            for worth in range(1, 60):
                self.assertEqual(less(pile, worth), sum(coin for coin in coins_of(pile) if coin < worth))


class TestPutAndTake(unittest.TestCase):
    def test_put(self):
        for one, other, expected in (
                ((), (), ()), (((1, 2),), (), ((1, 2),)), (((1, 2),), ((1, 3),), ((1, 5),)),
                (((5, 1),), ((1, 3),), ((1, 3), (5, 1))),
                (((1, 1), (5, 1)), ((2, 1), (5, 2)), ((1, 1), (2, 1), (5, 3))),
                (((10, 1),), ((9, 1), (11, 1)), ((9, 1), (10, 1), (11, 1))),
                (((1, MANY),), ((1, MANY), (MANY, MANY)), ((1, 2 * MANY), (MANY, MANY)))):
            for first, second in ((one, other), (other, one)):
                with self.subTest(first=first, second=second):
                    self.assertEqual(told_each_way(put, (first, second), ("one", "other")), [expected] * 3)

    def test_put_and_take_go_by_the_coins(self):
        for one, other in itertools.product(PILES[:9], repeat=2):
            both = made_of(coins_of(one) + coins_of(other))
            self.assertEqual(put(one, other), both)
            self.assertIs(is_pile(put(one, other)), True)
            self.assertEqual(take(both, other), one)
            self.assertEqual(take(both, one), other)

    def test_take(self):
        pile = ((1, 4), (5, 1), (10, 2))
        for other, expected in (((), pile), (pile, ()), (((1, 1),), ((1, 3), (5, 1), (10, 2))),
                                (((1, 4),), ((5, 1), (10, 2))), (((5, 1), (10, 1)), ((1, 4), (10, 1)))):
            with self.subTest(other=other):
                self.assertEqual(told_each_way(take, (pile, other), ("pile", "other")), [expected] * 3)
        self.assertEqual(take((), ()), ())
        self.assertEqual(take(((1, MANY), (MANY, MANY)), ((1, 1), (MANY, MANY - 1))), ((1, MANY - 1), (MANY, 1)))

    def test_take_too_many(self):
        pile = ((1, 4), (5, 1), (10, 2))
        for other, worth in ((((1, 5),), 1), (((2, 1),), 2), (((5, 2),), 5), (((11, 1),), 11), (((10, 3), (11, 1)), 10),
                             (((1, 5), (5, 2)), 1), (((1, 4), (5, 2), (10, 3)), 5), (((1, 1), (3, 1), (5, 2)), 3),
                             (((1, 4), (5, 1), (10, 2), (20, 1)), 20), (((MANY, MANY),), MANY)):
            with self.subTest(other=other):
                answers = told_each_way(take, (pile, other), ("pile", "other"))
                self.assertEqual(answers, [(NoCoins, {"worth": worth})] * 3)
        self.assertEqual(told(take, (), ((7, 1), (8, 1))), (NoCoins, {"worth": 7}))


class TestPayings(unittest.TestCase):
    def test_payings(self):
        pile = ((1, 2), (2, 1), (5, 1))
        for amount, expected in ((0, [()]), (1, [((1, 1),)]), (2, [((1, 2),), ((2, 1),)]), (3, [((1, 1), (2, 1))]),
                                 (5, [((5, 1),)]), (9, [pile]), (10, []), (201, []), (MANY, []), (10 ** 30, [])):
            with self.subTest(amount=amount):
                answers = told_each_way(payings, (pile, amount), ("pile", "amount"))
                self.assertEqual(answers, [expected] * 3)
        self.assertEqual(payings((), 0), [()])
        self.assertEqual(payings((), 1), [])

    def test_payings_are_those_of_all_counts(self):
        piles = PILES[:9] + (((1, 3), (2, 3), (3, 2), (4, 2)), ((3, 4), (4, 3), (7, 2)), ((2, 5), (4, 3), (6, 2)),
                             ((1, 1), (2, 1), (4, 1), (8, 1), (16, 1)), ((1, 9), (10, 2), (100, 1)))
        for pile in piles:
            for amount in range(whole(pile) + 3):
                with self.subTest(pile=pile, amount=amount):
                    self.assertEqual(payings(pile, amount), payings_by_all_counts(pile, amount))

    def test_a_whole_of_200_is_small_and_201_is_not(self):
        for pile in (((1, 200),), ((200, 1),), ((50, 4),), ((1, 100), (10, 10)), ((1, 5), (195, 1))):
            for amount in (0, 200, 201, MANY):
                self.assertEqual(payings(pile, amount), payings_by_all_counts(pile, amount) if amount < MANY else [])
            for coin in ((1, 1), (201, 1), (MANY, MANY)):
                for amount in (0, 1, 201, MANY):
                    self.assertEqual(told(payings, put(pile, (coin,)), amount), (TooGreat, {}))
        self.assertEqual(told(payings, ((201, 1),), 0), (TooGreat, {}))

    def test_just_2000_are_told_and_2001_are_not(self):
        pile, amount = JUST_2000
        found = payings(pile, amount)
        self.assertEqual(len(found), 2000)
        self.assertEqual(found, payings_by_all_counts(pile, amount))
        pile, amount = JUST_2001
        self.assertEqual(len(payings_by_all_counts(pile, amount)), 2001)
        self.assertEqual(told_each_way(payings, (pile, amount), ("pile", "amount")), [(TooGreat, {})] * 3)

    def test_very_many_are_refused_soon(self):
        pile = tuple((worth, 1) for worth in range(1, 20))
        self.assertEqual(told(payings, pile, 95), (TooGreat, {}))
        # All but one of a great many ways begun come to nothing here.
        self.assertEqual(payings(pile, 190), [pile])
        self.assertEqual(payings(pile, 189), [pile[1:]])
        pile = ((1, 12), (2, 6), (3, 6), (4, 4), (5, 4), (6, 4), (7, 3), (8, 2), (9, 1), (10, 1))
        self.assertLessEqual(whole(pile), 200)
        self.assertEqual(told(payings, pile, whole(pile) // 2), (TooGreat, {}))


class TestPayingsSoon(unittest.TestCase):
    def test_just_2000_of_many_ones_and_more(self):
        pile, amount = MANY_ONES
        found = payings(pile, amount)
        self.assertEqual(len(found), 2000)
        self.assertEqual(found, payings_by_plain_tables(pile, amount))
        # With one coin of 9 more there are the same 2,000, and those that have it.
        self.assertEqual(told(payings, put(pile, ((9, 1),)), amount), (TooGreat, {}))
        self.assertEqual(told(payings, put(pile, ((amount, 1),)), amount), (TooGreat, {}))
        self.assertEqual(payings_by_plain_tables(put(pile, ((amount, 1),)), amount), 2001)

    def test_nought_the_whole_and_nearly_the_whole(self):
        for pile in (TWO_OF_EACH, MANY_ONES[0], JUST_2000[0], JUST_2001[0]):
            total = whole(pile)
            self.assertEqual(payings(pile, 0), [()])
            self.assertEqual(payings(pile, total), [pile])
            self.assertEqual(payings(pile, total + 1), [])
            self.assertEqual(payings(pile, 1), [((1, 1),)])
            self.assertEqual(payings(pile, total - 1), [take(pile, ((1, 1),))])
            for amount in (2, 3, 5, 9, total - 9, total - 5, total - 3, total - 2):
                self.assertEqual(payings(pile, amount), payings_by_plain_tables(pile, amount))
        self.assertEqual(payings(TWO_OF_EACH, 129), [take(TWO_OF_EACH, ((1, 1), (2, 1))), take(TWO_OF_EACH, ((3, 1),))])

    def test_what_a_paying_leaves_is_a_paying_of_the_rest(self):
        for pile in (TWO_OF_EACH, MANY_ONES[0], JUST_2000[0], JUST_2001[0], ((3, 9), (5, 9), (11, 5), (17, 3))):
            for amount in range(whole(pile) + 1):
                answer, rest = told(payings, pile, amount), told(payings, pile, whole(pile) - amount)
                if answer == (TooGreat, {}):
                    self.assertEqual(rest, answer)
                else:
                    self.assertEqual(len(answer), len(rest))
                    self.assertLessEqual({take(pile, paying) for paying in answer[::7]}, set(rest))

    def test_all_amounts_against_plain_tables(self):
        for pile in (TWO_OF_EACH[3:], ((1, 25), (2, 15), (5, 8), (10, 3)), ((3, 9), (5, 9), (11, 5), (17, 3)),
                     ((2, 40), (3, 1), (50, 2)), ((1, 1), (2, 1), (4, 1), (8, 1), (16, 1), (32, 1), (64, 1)),
                     ((7, 5), (8, 5), (9, 5), (10, 5)), ((1, 3), (40, 2), (60, 1)), ((1, 200),), ((100, 2),),
                     tuple((worth, 1) for worth in range(1, 15)), ((1, 50), (2, 30), (3, 20))):
            for amount in range(whole(pile) + 2):
                answer, expected = told(payings, pile, amount), payings_by_plain_tables(pile, amount)
                with self.subTest(pile=pile, amount=amount):
                    self.assertEqual(answer, expected if isinstance(expected, list) else (TooGreat, {}))

    def test_they_are_told_several_times_quicker_than_by_plain_tables(self):
        for pile, amount in (MANY_ONES, (TWO_OF_EACH, 66), (TWO_OF_EACH, 132), (TWO_OF_EACH, 129)):
            with self.subTest(amount=amount):
                plainly = seconds(lambda: [payings_by_plain_tables(pile, amount) for _ in range(5)])
                self.assertLess(3 * seconds(lambda: [payings_or_none(pile, amount) for _ in range(5)]), plainly)


class TestRefusals(unittest.TestCase):
    def test_what_is_first_wrong_is_told(self):
        few = NO_PILES[:3] + NO_PILES[-3:]
        for asked, words, goods, bads, refusals in (
                (less, ("pile", "worth"), (((5, 1),), 3), (NO_PILES, NO_NUMBERS_FROM_1), (NoPile, NoNumber)),
                (put, ("one", "other"), (((5, 1),), ((5, 1),)), (few, NO_PILES), (NoPile, NoPile)),
                (take, ("pile", "other"), (((5, 1),), ((5, 1),)), (few, NO_PILES), (NoPile, NoPile)),
                (payings, ("pile", "amount"), (((5, 1),), 5), (NO_PILES, NO_NUMBERS), (NoPile, NoNumber))):
            for row, place in one_or_more_wrong(goods, bads):
                with self.subTest(asked=asked.__name__, place=place):
                    self.assertEqual(told_each_way(asked, row, words), [(refusals[place], {})] * 3)

    def test_whole_of_no_pile(self):
        for thing in NO_PILES:
            self.assertEqual(told_each_way(whole, (thing,), ("pile",)), [(NoPile, {})] * 2)

    def test_no_such_thing_is_told_ahead_of_the_rest(self):
        for bad in NO_NUMBERS:
            self.assertEqual(told(payings, ((201, 1),), bad), (NoNumber, {}))
            self.assertEqual(told(payings, JUST_2001[0], bad), (NoNumber, {}))
        for bad in NO_PILES:
            self.assertEqual(told(take, (), bad), (NoPile, {}))
            self.assertEqual(told(take, bad, ((1, 1),)), (NoPile, {}))
        # A list with something wrong behind too many coins is no pile, too.
        self.assertEqual(told(take, (), ((1, 1), (2, 0))), (NoPile, {}))


class TestAnswersAreTheAskers(unittest.TestCase):
    def test_a_changed_list_changes_no_later_answer(self):
        pile = ((1, 2), (2, 1), (5, 1))
        first = payings(pile, 2)
        second = payings(pile, 2)
        self.assertIsNot(first, second)
        first.append(((9, 9),))
        first[0] = None
        self.assertEqual(second, [((1, 2),), ((2, 1),)])
        self.assertEqual(payings(pile, 2), second)
        payings(pile, 10).append(1)
        self.assertEqual(payings(pile, 10), [])

    def test_each_paying_is_a_pile_within_the_pile(self):
        pile, amount = JUST_2000
        for paying in payings(pile, amount):
            self.assertIs(is_pile(paying), True)
            self.assertEqual(whole(paying), amount)
            self.assertEqual(put(take(pile, paying), paying), pile)


if __name__ == "__main__":
    unittest.main()
