"""Points [26] to [29], and what [2], [3] and [4] say of tills made and mended."""

import functools
import itertools
import unittest

from blindtill.errors import NoCoins, NoNumber, NoParts, NoPile, NoRight, NoWorths, TooGreat
from blindtill.making import broken_up, fewest, lacking, must_stay, to_break, to_bring
from blindtill.most import most
from blindtill.piles import is_pile, less, put, take, whole
from blindtill.serving import serves
from runs import NONE, any_rights, chance_rights, fails_at, mosts_in
from things import (
    A, B, C, NO_NUMBERS_FROM_1, NO_PILES, NO_RIGHTS, count_up, first_wrong, nested, one_or_more_wrong, seconds, told,
    told_each_way, unserved, within)
from ways import lists_of, pile_of, piles_up_to, piles_within

MANY = 10 ** 12
PILE = ((1, 4), (5, 1), (10, 2), (50, 1))
RIGHTS = chance_rights(61, 9, 6)
SMALL_PILES = piles_up_to(9)
GREATER_PILES = (((1, 9), (4, 2), (10, 3)), ((2, 4), (5, 1)), ((1, 2), (3, 2), (7, 2)), ((5, 9),), ((1, 60),),
                 ((1, 1), (30, 2)),
                 ((1, 3), (2, 2), (6, 1), (25, 2)))
GREATER_RIGHTS = [right for right in any_rights(62, 60, "abcdefgh", 20, 3) if most(right) <= 200]
BOTH = ("pile", "right")
# What is no list of numbers from 1 on, or no list.
NO_NUMBER_LISTS = (None, True, False, 0, 1, 5, "", "23", "a", (), (2, 3), (1, 2, 5), {1: 2}, nested(100000),
                   nested(100000, list),
                   [[1], 4], [(1,), 4], [[1, 4]], ["1", 4], ["1", "4"], [None, 5], [5, None], [nested(100000), 5],
                   [1, nested(100000, list)]) + tuple([1, bad, 4] for bad in NO_NUMBERS_FROM_1)
NO_WORTHS = NO_NUMBER_LISTS[1:] + (
    [], [0], [2], [2, 3], [0, 1], [1, 1], [1, 2, 2], [1, 3, 2], [2, 1], [1, 2, 1], [1, 5, 5, 7], [1, 2, 3, 3], [True],
    [True, 2], [1, True], [1, 2, False], [-1, 1], [1, -2], [1, 0], [1, MANY, MANY], [1, None])
NO_PARTS = NO_NUMBER_LISTS + (
    [], [5], [1], [1, 1], [2, 2], [2, 4], [1, 1, 1, 1], [1, 1, 1, 1, 1, 1], [0, 5], [5, 0], [2, 3, 0], [-1, 6], [6, -1],
    [True, 4], [4, True], [False, 5], [2, 3, None], [MANY, 5 - MANY], [MANY, MANY])


def coins_in(pile):
    return [worth for worth, many in pile for _ in range(many)]


def count(pile):
    return sum(many for _, many in pile)


def piles_of_so_many(coins, worths):
    """All piles of so many coins of these worths."""
    return [pile_of(each) for each in itertools.combinations_with_replacement(sorted(worths), coins)]


@functools.lru_cache(maxsize=None)
def mosts_below(right):
    return [(worth, most(right, below=worth)) for worth in range(1, max(mosts_in(right)) + 2)]


def greatest_fitting(right, total):
    """The greatest worth at which the right's calls below it come to no more than the total."""
    return max(worth for worth, needed in mosts_below(right) if needed <= total)


class TestFewest(unittest.TestCase):
    def check(self, right, worths):
        answers = told_each_way(fewest, (right,), ("right",), worths=worths)
        with self.subTest(right=right, worths=worths, answer=answers[0]):
            self.assertEqual(answers, [answers[0]] * 2)
            self.assertIs(is_pile(answers[0]), True)
            self.assertIs(serves(answers[0], right), True)
            self.assertLessEqual(set(dict(answers[0])), set(worths or dict(answers[0])))
            self.assertEqual(answers[0], pile_of(self.by_the_rule(right, worths)))
        return answers[0]

    def by_the_rule(self, right, worths):
        coins = []
        while sum(coins) < most(right):
            coin = greatest_fitting(right, sum(coins))
            coins.append(max(worth for worth in worths or [coin] if worth <= coin))
        return coins

    def test_no_pile_of_fewer_coins_serves(self):
        for right in RIGHTS[::4]:
            for worths in (None, [1], [1, 2], [1, 3], [1, 2, 5], [1, 4, 6, 7], list(range(1, 20))):
                answer = self.check(right, worths)
                if 0 < count(answer) <= 5:
                    others = piles_of_so_many(count(answer) - 1, worths or range(1, most(right) + 2))
                    self.assertEqual([pile for pile in others if serves(pile, right)], [])

    def test_greater_rights(self):
        for right in GREATER_RIGHTS + [("within", 200, ("call", "a", 150, 3)), ("call", "a", 1, 200)]:
            for worths in (None, [1, 5, 10, 50, 100, 500], [1, 2, 5], [1, MANY]):
                self.check(right, worths)

    def test_fewest(self):
        for right, worths, expected in (
                (NONE, None, ()), (("all", ()), [1, 2], ()), (("call", "a", 1, 1), None, ((1, 1),)),
                (("call", "a", 1, 5), None, ((1, 5),)), (("call", "a", 3, 1), None, ((1, 1), (2, 1))),
                (("call", "a", 7, 1), None, ((1, 1), (2, 1), (4, 1))), (A, None, ((1, 2), (2, 1), (3, 1), (4, 1))),
                (("call", "a", 7, 1), [1, 3, 4], ((1, 2), (3, 1), (4, 1))), (("call", "a", 7, 1), [1], ((1, 7),)),
                (A, [1, 2], ((1, 2), (2, 4))), (A, [1, MANY], ((1, 10),))):
            with self.subTest(right=right, worths=worths):
                self.assertEqual(self.check(right, worths), expected)
        self.assertEqual(fewest(A), fewest(A, worths=None))
        self.assertEqual(coins_in(fewest(("call", "a", 200, 1))), [1, 2, 4, 8, 16, 32, 64, 128])
        with self.assertRaises(TypeError):
            fewest(A, [1, 2])

    def test_long_lists_of_worths(self):
        worths = [1] + list(range(3, 100000, 7))
        self.assertEqual(fewest(("call", "a", 150, 1), worths=worths), self.check(("call", "a", 150, 1), worths[:30]))
        self.assertLess(seconds(lambda: fewest(("call", "a", 1, 200), worths=worths), 3), 10 * seconds(count_up, 3))

    def test_refused(self):
        for thing in NO_RIGHTS:
            self.assertEqual(told_each_way(fewest, (thing,), ("right",)), [(NoRight, {})] * 2)
        for thing in NO_WORTHS:
            self.assertEqual(told_each_way(fewest, (A,), ("right",), worths=thing), [(NoWorths, {})] * 2)
            # Told ahead of TooGreat, behind NoRight.
            self.assertEqual(told(fewest, ("call", "a", 201, 1), worths=thing), (NoWorths, {}))
            self.assertEqual(told(fewest, ("call", "a", 0, 1), worths=thing), (NoRight, {}))
        for worths in (None, [1], [1, 2]):
            for right in (("call", "a", 201, 1), ("within", 201, A), ("call", "a", 1, 201)):
                self.assertEqual(told(fewest, right, worths=worths), (TooGreat, {}))

    def test_worths_may_be_changed_behind_the_call(self):
        worths = [1, 2]
        self.assertEqual(fewest(A, worths=worths), ((1, 2), (2, 4)))
        worths.clear()
        self.assertEqual(told(fewest, A, worths=worths), (NoWorths, {}))
        worths.append(1)
        self.assertEqual(fewest(A, worths=worths), ((1, 10),))


class TestLacking(unittest.TestCase):
    def test_the_least_worth(self):
        for pile, right in itertools.product(SMALL_PILES[::5] + list(GREATER_PILES), RIGHTS[::3]):
            answer = told_each_way(lacking, (pile, right), BOTH)
            with self.subTest(pile=pile, right=right):
                self.assertEqual(answer, [answer[0]] * 3)
                self.assertIs(serves(put(pile, ((1, answer[0]),) if answer[0] else ()), right), True)
                self.assertEqual(answer[0] == 0, serves(pile, right))
                if 0 < answer[0] <= 6:
                    brought = [pile_of(coins) for coins in lists_of(answer[0] - 1, answer[0])]
                    self.assertEqual([each for each in brought if serves(put(pile, each), right)], [])

    def test_lacking(self):
        for pile, right, expected in (
                ((), NONE, 0), ((), A, 10), (((1, 3),), A, 7), (((5, 9),), A, 8), (((1, 8), (5, 9)), A, 0),
                (((1, 4), (2, 1), (5, 2)), A, 2), (((1, 1), (2, 9)), A, 1),
                (((1, MANY),), ("call", "a", MANY, MANY), MANY * (MANY - 1)),
                (((MANY, 1),), ("call", "a", MANY, 1), MANY - 1), (((2, 1),), ("within", 3, C), 3),
                (((2, 1),), ("within", 3, ("call", "a", 3, 1)), 1), (PILE, ("call", "a", 40, 1), 11), (PILE, NONE, 0)):
            with self.subTest(pile=pile, right=right):
                self.assertEqual(told_each_way(lacking, (pile, right), BOTH), [expected] * 3)

    def test_by_the_sums(self):
        for pile, right in itertools.product(GREATER_PILES, GREATER_RIGHTS + any_rights(63, 30, "abcdef", MANY, 9)):
            gaps = [most(right, below=worth) - less(pile, worth) for worth, _ in pile if worth > 1]
            self.assertEqual(lacking(pile, right), max([0, most(right) - whole(pile)] + gaps))


class TestToBring(unittest.TestCase):
    def by_the_rule(self, pile, right):
        brought, total, coins = [], 0, coins_in(pile)
        while coins or total < most(right):
            greatest = None if total >= most(right) else greatest_fitting(right, total)
            if coins and (greatest is None or coins[0] <= greatest):
                total += coins.pop(0)
            else:
                brought.append(greatest)
                total += greatest
        return pile_of(brought)

    def test_piles_of_fewest_coins(self):
        for pile, right in itertools.product(SMALL_PILES[::6] + list(GREATER_PILES), RIGHTS[::3]):
            answers = told_each_way(to_bring, (pile, right), BOTH)
            answer = answers[0]
            with self.subTest(pile=pile, right=right, answer=answer):
                self.assertEqual(answers, [answer] * 3)
                self.assertIs(is_pile(answer), True)
                self.assertIs(serves(put(pile, answer), right), True)
                self.assertEqual(answer, self.by_the_rule(pile, right))
                self.assertEqual(answer == (), serves(pile, right))
                if 0 < count(answer) <= 4:
                    others = piles_of_so_many(count(answer) - 1, range(1, most(right) + 2))
                    self.assertEqual([each for each in others if serves(put(pile, each), right)], [])

    def test_greater_ones(self):
        for pile, right in itertools.product(GREATER_PILES, GREATER_RIGHTS):
            answer = to_bring(pile, right)
            self.assertEqual(answer, self.by_the_rule(pile, right))
            self.assertIs(serves(put(pile, answer), right), True)
        for right in GREATER_RIGHTS:
            self.assertEqual(to_bring((), right), fewest(right))

    def test_to_bring(self):
        for pile, right, expected in (
                ((), NONE, ()), ((), A, ((1, 2), (2, 1), (3, 1), (4, 1))), (((7, 2),), NONE, ()),
                (((5, 2),), ("call", "a", 5, 1), ((1, 1), (2, 1), (4, 1))),
                (((2, 1),), ("call", "a", 3, 1), ((1, 1),)), (((3, 1),), ("call", "a", 3, 1), ((1, 1), (2, 1))),
                (((1, 1), (3, 1)), ("call", "a", 3, 1), ((2, 1),)), (((200, 1),), ("call", "a", 1, 1), ((1, 1),))):
            with self.subTest(pile=pile, right=right):
                self.assertEqual(told_each_way(to_bring, (pile, right), BOTH), [expected] * 3)


class TestBrokenUp(unittest.TestCase):
    WORDS = ("pile", "worth", "parts")

    def test_broken_up(self):
        for pile, worth, parts, expected in (
                (PILE, 5, [2, 3], ((1, 4), (2, 1), (3, 1), (10, 2), (50, 1))),
                (PILE, 10, [5, 5], ((1, 4), (5, 3), (10, 1), (50, 1))), (PILE, 5, [1] * 5, ((1, 9), (10, 2), (50, 1))),
                (PILE, 50, [10, 25, 5, 9, 1], ((1, 5), (5, 2), (9, 1), (10, 3), (25, 1))),
                (((2, 1),), 2, [1, 1], ((1, 2),)),
                (PILE, 50, [1] * 50, ((1, 54), (5, 1), (10, 2))), (((MANY, MANY),), MANY, [1, MANY - 1], (
                    (1, 1), (MANY - 1, 1), (MANY, MANY - 1))), (((3, 2),), 3, [2, 1], ((1, 1), (2, 1), (3, 1)))):
            with self.subTest(pile=pile, worth=worth, parts=parts):
                answers = told_each_way(broken_up, (pile, worth, parts), self.WORDS)
                self.assertEqual(answers, [expected] * 4)
                self.assertEqual(whole(answers[0]), whole(pile))

    def test_small_piles(self):
        for pile in SMALL_PILES:
            for worth, _ in pile:
                for parts in lists_of(worth, worth - 1):
                    expected = coins_in(pile)
                    expected.remove(worth)
                    self.assertEqual(told(broken_up, pile, worth, parts), pile_of(expected + parts))

    def test_refused_in_this_order(self):
        few = NO_PILES[::9]
        for bads in ((few, NO_NUMBERS_FROM_1[::3], NO_PARTS[::3]), (NO_PILES, (), ()), ((), NO_NUMBERS_FROM_1, ()),
                     ((), (), NO_PARTS)):
            for answers, expected in first_wrong(broken_up, self.WORDS, (PILE, 5, [2, 3]), bads,
                                                 (NoPile, NoNumber, NoParts)):
                self.assertEqual(answers, expected)
        for parts in NO_PARTS:
            self.assertEqual(told(broken_up, PILE, 6, parts[:] if parts == [2, 2] else parts)[0],
                             NoCoins if parts in ([2, 4], [1, 1, 1, 1, 1, 1]) else NoParts)

    def test_no_such_coin(self):
        for pile, worth in ((PILE, 2), (PILE, 49), (PILE, MANY), ((), 2), (((1, 9),), 4), (PILE, 11)):
            answers = told_each_way(broken_up, (pile, worth, [worth - 1, 1]), self.WORDS)
            self.assertEqual(answers, [(NoCoins, {"worth": worth})] * 4)
        self.assertEqual(told(broken_up, PILE, 1, [1]), (NoParts, {}))
        self.assertEqual(told(broken_up, PILE, 2, [2]), (NoParts, {}))

    def test_parts_may_be_changed_behind_the_call(self):
        parts = [2, 3]
        answer = broken_up(PILE, 5, parts)
        parts.append(1)
        self.assertEqual(answer, ((1, 4), (2, 1), (3, 1), (10, 2), (50, 1)))


def broken(pile, coins):
    """The pile with each of these coins of it broken into coins of 1."""
    return put(take(pile, coins), ((1, whole(coins)),) if coins else ())


class TestToBreak(unittest.TestCase):
    def test_fewest_coins_and_the_greatest(self):
        looked_at = 0
        for pile, right in itertools.product(SMALL_PILES[::3] + list(GREATER_PILES), RIGHTS[::3]):
            answers = told_each_way(to_break, (pile, right), BOTH)
            answer = answers[0]
            with self.subTest(pile=pile, right=right, answer=answer):
                self.assertEqual(answers, [answer] * 3)
                if whole(pile) < most(right):
                    self.assertEqual(answer, unserved(fails_at(pile, right)[0]))
                    continue
                looked_at += answer != ()
                self.assertIs(serves(broken(pile, answer), right), True)
                self.assertEqual(coins_in(answer), coins_in(pile)[count(pile) - count(answer):])
                if answer and count(pile) < 10:
                    fewer = [each for each in piles_within(pile) if count(each) == count(answer) - 1]
                    self.assertEqual([each for each in fewer if serves(broken(pile, each), right)], [])
        self.assertGreater(looked_at, 100)

    def test_greater_ones(self):
        for pile, right in itertools.product(GREATER_PILES + (((1, 100), (2, 50)), ((200, 1),), ((4, 50),)),
                                             GREATER_RIGHTS):
            if whole(pile) >= most(right):
                answer = to_break(pile, right)
                coins = coins_in(pile)
                tried = [pile_of(coins[len(coins) - many:]) for many in range(len(coins) + 1)]
                self.assertEqual(answer, next(each for each in tried if serves(broken(pile, each), right)))

    def test_to_break(self):
        for pile, right, expected in (
                ((), NONE, ()), (((5, 2),), NONE, ()), (((5, 2),), ("call", "a", 1, 1), ((5, 1),)),
                (((5, 2),), ("call", "a", 5, 2), ((5, 2),)), (((1, 9), (5, 2)), A, ()),
                (((1, 4), (2, 1), (5, 2)), A, ((5, 1),)),
                (((1, 1), (2, 1), (3, 1), (30, 2)), ("call", "a", 15, 4), ((30, 2),)),
                (((2, 2),), ("call", "a", 1, 2), ((2, 1),))):
            with self.subTest(pile=pile, right=right):
                self.assertEqual(told_each_way(to_break, (pile, right), BOTH), [expected] * 3)

    def test_unserved_is_told_of_the_pile_as_it_lies(self):
        for pile, right, worth in (((), A, None), (((9, 1),), A, 9), (((1, 4), (2, 1)), A, None),
                                   (((1, 1), (2, 1), (6, 1)), A, 2),
                                   (((1, 3), (6, 1)), A, 6)):
            self.assertEqual(told_each_way(to_break, (pile, right), BOTH), [unserved(worth)] * 3)


class TestMustStay(unittest.TestCase):
    def by_the_rule(self, pile, right):
        kept, coins = [], coins_in(pile)
        while sum(kept) < most(right):
            fitting = greatest_fitting(right, sum(kept))
            coin = max(each for each in coins if each <= fitting)
            coins.remove(coin)
            kept.append(coin)
        return pile_of(kept)

    def test_fewest_coins_that_serve(self):
        served = 0
        for pile, right in itertools.product(SMALL_PILES[::3] + list(GREATER_PILES), RIGHTS[::4]):
            answers = told_each_way(must_stay, (pile, right), BOTH)
            answer = answers[0]
            with self.subTest(pile=pile, right=right, answer=answer):
                self.assertEqual(answers, [answer] * 3)
                if not serves(pile, right):
                    self.assertEqual(answer, unserved(fails_at(pile, right)[0]))
                    continue
                served += 1
                self.assertEqual(answer, self.by_the_rule(pile, right))
                self.assertEqual(put(take(pile, answer), answer), pile)
                self.assertIs(serves(answer, right), True)
                if answer and count(pile) < 9:
                    fewer = [each for each in piles_within(pile) if count(each) == count(answer) - 1]
                    self.assertEqual([each for each in fewer if serves(each, right)], [])
        self.assertGreater(served, 100)

    def test_greater_ones(self):
        for pile, right in itertools.product((((1, 100), (2, 50)), ((1, 90), (3, 20), (7, 7)), ((1, 200),)),
                                             GREATER_RIGHTS):
            if serves(pile, right):
                answer = must_stay(pile, right)
                self.assertEqual(answer, self.by_the_rule(pile, right))
                self.assertIs(serves(answer, right), True)

    def test_must_stay(self):
        for pile, right, expected in (
                ((), NONE, ()), (PILE, NONE, ()), (PILE, ("call", "a", 1, 1), ((1, 1),)),
                (PILE, ("call", "a", 4, 1), ((1, 4),)),
                (((1, 9), (5, 2)), A, ((1, 8), (5, 1))), (((1, 12), (5, 2)), A, ((1, 8), (5, 1))),
                (((1, 3), (2, 3)), ("call", "a", 5, 1), ((1, 1), (2, 2)))):
            with self.subTest(pile=pile, right=right):
                self.assertEqual(told_each_way(must_stay, (pile, right), BOTH), [expected] * 3)


class TestRefusals(unittest.TestCase):
    def test_what_is_first_wrong_is_told(self):
        for asked in (lacking, to_bring, to_break, must_stay):
            for bads in ((NO_PILES[::9], NO_RIGHTS[::9]), (NO_PILES, ()), ((), NO_RIGHTS)):
                for answers, expected in first_wrong(asked, BOTH, (PILE, B), bads, (NoPile, NoRight)):
                    self.assertEqual(answers, expected)

    def test_what_is_not_small(self):
        great_pile, great_right = ((2, 101),), ("call", "a", 201, 1)
        for asked in (to_bring, to_break, must_stay):
            for row in ((great_pile, A), (PILE, great_right), (great_pile, great_right), (great_pile, NONE),
                        (((201, 1),), NONE), ((), ("within", 201, A)), ((), ("call", "a", 67, 3)),
                        (((1, 199), (2, 1)), B)):
                # Told ahead of Unserved.
                self.assertEqual(told_each_way(asked, row, BOTH), [(TooGreat, {})] * 3)
            for row, place in one_or_more_wrong((great_pile, great_right), (NO_PILES[::20], NO_RIGHTS[::20])):
                self.assertEqual(told(asked, *row), ((NoPile, NoRight)[place], {}))
            self.assertEqual(told(asked, ((1, 200),), NONE), ())
            self.assertEqual(told(asked, ((200, 1),), ("within", 200, NONE)), ())
        self.assertEqual(told(lacking, ((2, 1),), great_right), 199)

    def test_deep_rights(self):
        self.assertEqual(told(lacking, (), within(5, A)), 9)
        self.assertEqual(told(must_stay, ((1, 9),), within(5, A)), ((1, 9),))


class TestSoon(unittest.TestCase):
    def test_great_ones_are_told_of_soon(self):
        choices = ("within", 200, ("calls", 11, ("all", tuple(("one", tuple(
            ("call", "abcdefghijkl"[3 * at + way], (200, 99, 75)[way] - at, way + 1) for way in range(3)))
            for at in range(4)))))
        for pile in (((1, 200),), ((1, 100), (2, 50)), ((50, 4),), tuple((at, 2) for at in range(1, 13))):
            for right in (choices, ("call", "a", 1, 200), ("call", "a", 200, 1)):
                for work in (lambda: fewest(right), lambda: to_bring(pile, right), lambda: told(to_break, pile, right),
                             lambda: told(must_stay, pile, right), lambda: lacking(pile, right)):
                    self.assertLess(seconds(work, 2), 20 * seconds(count_up, 3))


if __name__ == "__main__":
    unittest.main()
