"""Point [34], and what [2], [3] and [4] say of tills counted."""

import functools
import itertools
import unittest

from blindtill.counting import all_tills, how_many, place_of, till_at
from blindtill.errors import NoNumber, NoPile, NoPlace, NoRight, TooGreat
from blindtill.most import most
from blindtill.piles import whole
from blindtill.serving import serves
from runs import NONE, chance_rights, fails_at
from things import (
    A, B, NO_NUMBERS, NO_PILES, NO_RIGHTS, count_up, first_wrong, one_or_more_wrong, seconds, told, told_each_way,
    unserved, within)
from ways import lists_of, pile_of

MANY = 10 ** 12
RIGHTS = chance_rights(91, 14, 9) + [("within", 9, ("call", "a", MANY, MANY)), ("call", "a", 12, 1)]
PILE = ((1, 4), (5, 1), (10, 2), (50, 1))
ASKED = ("right", "worth", "coins")
AT = ("right", "worth", "coins", "place")
CHOICES = ("calls", 11, ("all", tuple(("one", tuple(
    ("call", "abcdefghijkl"[3 * at + way], (200, 99, 75)[way] - at, way + 1) for way in range(3))) for at in range(4))))


@functools.lru_cache(maxsize=None)
def coins_of(worth, coins):
    """All rising tuples of so many coins that come to this worth, in rising order."""
    return sorted(tuple(sorted(row)) for row in lists_of(worth, worth) if len(row) == coins)


def listed(right, worth, coins):
    return [pile_of(row) for row in coins_of(worth, coins) if serves(pile_of(row), right)]


def count(pile):
    return sum(many for _, many in pile)


class TestCounting(unittest.TestCase):
    def test_against_all_small_piles(self):
        most_told = 0
        for right in RIGHTS[::9] + RIGHTS[-2:]:
            for worth, coins in itertools.product(range(14), range(7)):
                expected = listed(right, worth, coins)
                most_told = max(most_told, len(expected))
                with self.subTest(right=right, worth=worth, coins=coins):
                    self.assertEqual(told(how_many, right, worth, coins), len(expected))
                    self.assertEqual(told(all_tills, right, worth, coins), expected)
                    for place, pile in enumerate(expected):
                        self.assertEqual(told(till_at, right, worth, coins, place), pile)
                        self.assertEqual(told(place_of, right, pile), place)
                    for place in (len(expected), len(expected) + 1, MANY):
                        self.assertEqual(told(till_at, right, worth, coins, place), (NoPlace, {}))
        self.assertGreater(most_told, 10)

    def test_each_way_of_handing_in(self):
        right = ("call", "a", 4, 1)
        expected = listed(right, 8, 4)
        self.assertGreater(len(expected), 1)
        self.assertEqual(told_each_way(how_many, (right, 8, 4), ASKED), [len(expected)] * 4)
        self.assertEqual(told_each_way(all_tills, (right, 8, 4), ASKED), [expected] * 4)
        self.assertEqual(told_each_way(till_at, (right, 8, 4, 1), AT), [expected[1]] * 5)
        self.assertEqual(told_each_way(place_of, (right, expected[1]), ("right", "pile")), [1] * 3)

    def test_small_numbers(self):
        for right, worth, coins, expected in (
                (NONE, 0, 0, [()]), (NONE, 0, 1, []), (NONE, 1, 0, []), (NONE, 1, 1, [((1, 1),)]), (B, 0, 0, []),
                (NONE, 3, 2, [((1, 1), (2, 1))]), (NONE, 4, 2, [((1, 1), (3, 1)), ((2, 2),)]),
                (NONE, 100, 1, [((100, 1),)]),
                (NONE, 6, 3, [((1, 2), (4, 1)), ((1, 1), (2, 1), (3, 1)), ((2, 3),)]), (NONE, 5, 6, []),
                (NONE, 20, 20, [((1, 20),)]),
                (("call", "a", 2, 1), 4, 2, []), (("call", "a", 2, 1), 4, 3, [((1, 2), (2, 1))]),
                (("call", "a", 1, 1), 4, 2, [((1, 1), (3, 1))]), (("call", "a", 4, 1), 4, 4, [((1, 4),)]),
                (("call", "a", 5, 1), 4, 4, []), (("call", "a", MANY, 1), 100, 20, [])):
            with self.subTest(right=right, worth=worth, coins=coins):
                self.assertEqual(told_each_way(all_tills, (right, worth, coins), ASKED), [expected] * 4)
                self.assertEqual(told_each_way(how_many, (right, worth, coins), ASKED), [len(expected)] * 4)

    def test_great_counts(self):
        for right in (NONE, ("call", "a", 100, 1), ("call", "a", 30, 3), ("call", "a", 1, 100), CHOICES, within(5, A)):
            for worth, coins in ((100, 20), (100, 10), (97, 7), (100, 1)):
                total = how_many(right, worth, coins)
                ahead = None
                for place in sorted({0, 1, total // 3, total // 2, total - 2, total - 1}):
                    if 0 <= place < total:
                        pile = till_at(right, worth, coins, place)
                        with self.subTest(right=right, worth=worth, coins=coins, place=place):
                            self.assertEqual((whole(pile), count(pile)), (worth, coins))
                            self.assertIs(serves(pile, right), True)
                            self.assertEqual(place_of(right, pile), place)
                            row = [coin for coin, many in pile for _ in range(many)]
                            self.assertTrue(ahead is None or ahead < row)
                            ahead = row
                self.assertEqual(told(till_at, right, worth, coins, total), (NoPlace, {}))
        # How many ways there are to part 100 into ten parts from 1 on.
        self.assertEqual(how_many(NONE, 100, 10), 2977866)
        self.assertEqual(how_many(("call", "a", 100, 1), 100, 6), 0)
        self.assertEqual(how_many(("call", "a", 63, 1), 63, 6), 1)

    def test_numbers_by_a_plain_table(self):
        @functools.lru_cache(maxsize=None)
        def parts(total, coins, least):
            if coins == 0:
                return int(total == 0)
            return sum(parts(total - coin, coins - 1, coin) for coin in range(least, total // coins + 1))

        for worth, coins in itertools.product((0, 1, 19, 20, 21, 50, 99, 100), (0, 1, 2, 3, 7, 12, 19, 20)):
            self.assertEqual(how_many(NONE, worth, coins), parts(worth, coins, 1))

    def test_rights_by_a_plain_table(self):
        for right in (("call", "a", 20, 2), ("all", (("call", "a", 7, 2), ("call", "b", 13, 1))), ("call", "a", 1, 30),
                      CHOICES):
            mosts = [most(right, below=below) for below in range(1, 102)]

            @functools.lru_cache(maxsize=None)
            def ways(total, coins, last):
                if coins == 0:
                    return int(total == 60 and total >= most(right))
                return sum(ways(total + coin, coins - 1, coin) for coin in range(last, (60 - total) // coins + 1)
                           if coin == last or total >= mosts[coin - 1])

            for coins in range(21):
                self.assertEqual(how_many(right, 60, coins), ways(0, coins, 1))


class TestTooGreat(unittest.TestCase):
    def test_worths_and_coins(self):
        for worth, coins in ((101, 1), (1, 21), (MANY, 0), (0, MANY), (101, 21), (0, 21), (101, 0)):
            self.assertEqual(told_each_way(how_many, (A, worth, coins), ASKED), [(TooGreat, {})] * 4)
            self.assertEqual(told_each_way(all_tills, (A, worth, coins), ASKED), [(TooGreat, {})] * 4)
            # Ahead of NoPlace.
            self.assertEqual(told_each_way(till_at, (A, worth, coins, 10 ** 9), AT), [(TooGreat, {})] * 5)
        for pile in (((101, 1),), ((1, 21),), ((1, 1), (100, 1)), ((1, MANY),), ((MANY, MANY),), ((1, 20), (2, 1)),
                     ((1, 10), (2, 11))):
            # Ahead of Unserved.
            for right in (NONE, A):
                self.assertEqual(told_each_way(place_of, (right, pile), ("right", "pile")), [(TooGreat, {})] * 3)
        self.assertEqual(told(how_many, NONE, 100, 20), 10474462)
        self.assertEqual(told(place_of, NONE, ((1, 19), (81, 1))), 0)
        self.assertEqual(told(place_of, NONE, ((5, 20),)), 10474461)

    def test_lists_of_more_than_3000(self):
        counts = {worth: how_many(NONE, worth, 4) for worth in range(70, 101)}
        least = min(worth for worth in counts if counts[worth] > 3000)
        self.assertGreater(least, 70)
        self.assertEqual(told_each_way(all_tills, (NONE, least, 4), ASKED), [(TooGreat, {})] * 4)
        answer = all_tills(NONE, least - 1, 4)
        self.assertEqual(len(answer), counts[least - 1])
        rows = [(one, two, three, least - 1 - one - two - three) for one in range(1, least) for two in range(one, least)
                for three in range(two, least) if least - 1 - one - two - three >= three]
        self.assertEqual(answer, [pile_of(row) for row in rows])
        # Whatever the bound isn't of: how many there are, and the one at a place.
        self.assertEqual(told(how_many, NONE, least, 4), counts[least])
        self.assertEqual(place_of(NONE, till_at(NONE, least, 4, counts[least] - 1)), counts[least] - 1)

    def test_just_3000_is_told(self):
        just, one_more = (("within", 33, ("call", "a", 17, 2)), 70, 10), (("call", "a", 13, 1), 69, 7)
        self.assertEqual((told(how_many, *just), told(how_many, *one_more)), (3000, 3001))
        self.assertEqual(len(told(all_tills, *just)), 3000)
        self.assertEqual(told(all_tills, *one_more), (TooGreat, {}))


class TestRefusals(unittest.TestCase):
    def test_what_is_first_wrong_is_told(self):
        rights, numbers = NO_RIGHTS[::12], NO_NUMBERS[::4]
        for asked in (how_many, all_tills):
            for bads in ((rights, numbers, numbers), (NO_RIGHTS, (), ()), ((), NO_NUMBERS, ()), ((), (), NO_NUMBERS)):
                for answers, expected in first_wrong(asked, ASKED, (A, 20, 9), bads, (NoRight, NoNumber, NoNumber)):
                    self.assertEqual(answers, expected)
        for bads in ((rights[::3], numbers[::2], numbers[::3], numbers[::2]), (NO_RIGHTS, (), (), ()),
                     ((), NO_NUMBERS, (), ()),
                     ((), (), NO_NUMBERS, ()), ((), (), (), NO_NUMBERS)):
            for answers, expected in first_wrong(till_at, AT, (A, 20, 9, 0), bads,
                                                 (NoRight, NoNumber, NoNumber, NoNumber)):
                self.assertEqual(answers, expected)
        for bads in ((rights, NO_PILES[::8]), (NO_RIGHTS, ()), ((), NO_PILES)):
            for answers, expected in first_wrong(place_of, ("right", "pile"), (A, PILE), bads, (NoRight, NoPile)):
                self.assertEqual(answers, expected)

    def test_what_is_no_such_thing_is_told_ahead_of_too_great(self):
        for row, place in one_or_more_wrong((A, 101, 21, 0), ((None,), (-1, True), (-1, None), (-1, False))):
            self.assertEqual(told(till_at, *row), ((NoRight, NoNumber, NoNumber, NoNumber)[place], {}))
            if place < 3:
                for asked in (how_many, all_tills):
                    self.assertEqual(told(asked, *row[:3]), ((NoRight, NoNumber, NoNumber)[place], {}))
        self.assertEqual(told(place_of, None, ((101, 1),)), (NoRight, {}))
        self.assertEqual(told(place_of, A, ((101, 1), (1, 1))), (NoPile, {}))

    def test_unserved(self):
        for right in RIGHTS[::9]:
            for worth, coins in ((5, 3), (9, 4)):
                for row in coins_of(worth, coins):
                    pile = pile_of(row)
                    failing = fails_at(pile, right)
                    if failing:
                        answers = told_each_way(place_of, (right, pile), ("right", "pile"))
                        self.assertEqual(answers, [unserved(failing[0])] * 3)
        self.assertEqual(told(place_of, A, ()), unserved(None))
        self.assertEqual(told(place_of, A, ((2, 1),)), unserved(2))

    def test_lists_are_the_askers_own(self):
        first = all_tills(NONE, 4, 2)
        first.clear()
        self.assertEqual(all_tills(NONE, 4, 2), [((1, 1), (3, 1)), ((2, 2),)])


class TestSoon(unittest.TestCase):
    def test_great_ones_are_told_of_soon(self):
        pile = till_at(NONE, 100, 20, 5 * 10 ** 6)
        for work in (lambda: how_many(NONE, 100, 20), lambda: how_many(CHOICES, 100, 20),
                     lambda: till_at(NONE, 100, 20, 5 * 10 ** 6), lambda: place_of(NONE, pile)):
            self.assertLess(seconds(work, 3), 20 * seconds(count_up, 3))
        self.assertLess(seconds(lambda: all_tills(NONE, 40, 6), 3), 20 * seconds(count_up, 3))


if __name__ == "__main__":
    unittest.main()
