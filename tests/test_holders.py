"""Points [31] to [33], and what [2], [3] and [4] say of holders."""

import functools
import itertools
import random
import unittest

from blindtill.errors import NoNumber, NoParts, NoPile, Stuck, TooGreat
from blindtill.holders import ready, shut_group, tables, undealt
from blindtill.piles import less, payings, put, take, whole
from things import (
    NO_NUMBERS_FROM_1, NO_PILES, count_up, first_wrong, nested, one_or_more_wrong, seconds, told, told_each_way)
from ways import lists_of, pile_of, piles_up_to

MANY = 10 ** 12
PILE = ((1, 4), (5, 1), (10, 2), (50, 1))
SMALL_PILES = piles_up_to(9)
GREATER_PILES = (((1, 9), (4, 2), (10, 3)), ((2, 4), (5, 1)), ((1, 20), (3, 2), (7, 2)), ((5, 9),), ((1, 60),),
                 ((1, 12), (30, 2)), ((1, 3), (2, 2), (6, 1), (25, 2)), ((1, 1), (2, 1), (4, 1), (8, 1), (16, 1)), PILE)


@functools.lru_cache(maxsize=None)
def can_be_dealt(pile, worths):
    """Whether the pile can be parted into piles of these worths, all ways tried."""
    if not worths:
        return pile == ()
    return any(can_be_dealt(take(pile, paying), worths[1:]) for paying in payings(pile, worths[0]))


def lists_of_worths(pile, many):
    """All falling lists of so many worths from 0 on that come to the pile's whole."""
    return [tuple(worths + [0] * (many - len(worths))) for worths in lists_of(whole(pile), whole(pile))
            if len(worths) <= many]


def is_ready(pile, many):
    return all(can_be_dealt(pile, worths) for worths in lists_of_worths(pile, many))


class TestReady(unittest.TestCase):
    def test_against_all_lists_of_worths(self):
        for pile in piles_up_to(8):
            answers = told_each_way(ready, (pile,), ("pile",))
            with self.subTest(pile=pile):
                self.assertEqual(answers, [answers[0]] * 2)
                # For more holders than there are units, the lists hold noughts alone beside those for fewer.
                readies = [many for many in range(1, whole(pile) + 2) if is_ready(pile, many)]
                if answers[0] is None:
                    self.assertEqual(len(readies), whole(pile) + 1)
                else:
                    self.assertEqual(readies, list(range(1, min(answers[0], whole(pile) + 1) + 1)))

    def test_ready(self):
        for pile, expected in (
                ((), None), (((1, 1),), None), (((1, MANY),), None), (((2, 1),), 1), (((1, 1), (2, 1)), 2),
                (((1, 2), (2, 1)), 3), (((1, 2), (3, 1)), 2), (((1, 1), (3, 1)), 1), (PILE, 1), (((1, 8), (5, 1)), 3),
                (((1, 7), (5, 1)), 2), (((1, 8), (5, 1), (10, 1)), 2), (((1, 9), (5, 2), (10, 1)), 3),
                (((1, MANY), (2, 1)), MANY + 1), (((1, MANY), (MANY, 1)), 2), (((MANY, 1),), 1)):
            with self.subTest(pile=pile):
                self.assertEqual(told_each_way(ready, (pile,), ("pile",)), [expected] * 2)

    def test_by_the_sums(self):
        for pile in SMALL_PILES + list(GREATER_PILES):
            counts = [1 + less(pile, worth) // (worth - 1) for worth, _ in pile if worth > 1]
            self.assertEqual(ready(pile), min(counts) if counts else None)


class TestUndealt(unittest.TestCase):
    def check(self, pile, many):
        answers = told_each_way(undealt, (pile, many), ("pile", "many"))
        greatest = ready(pile)
        with self.subTest(pile=pile, many=many, answer=answers[0]):
            self.assertEqual(answers, [answers[0]] * 3)
            if greatest is None or many <= greatest:
                self.assertIsNone(answers[0])
                return None
            self.assertIs(type(answers[0]), list)
            self.assertEqual(len(answers[0]), many)
            self.assertTrue(all(type(worth) is int and worth >= 0 for worth in answers[0]))
            self.assertEqual(sum(answers[0]), whole(pile))
        return answers[0]

    def test_what_is_told_cannot_be_dealt(self):
        told_of = 0
        for pile in SMALL_PILES + list(GREATER_PILES[:4]):
            for many in (1, 2, 3, 4, 7, 60):
                worths = self.check(pile, many)
                if worths is not None:
                    told_of += 1
                    self.assertIs(can_be_dealt(pile, tuple(worths)), False)
        self.assertGreater(told_of, 100)

    def test_greater_piles(self):
        for pile in GREATER_PILES + (((1, 10 ** 9), (10 ** 9, 5)), ((1, 9), (MANY, MANY)), ((MANY, 1),)):
            for many in (1, 2, 3, 10, 59, 60, 1000):
                worths = self.check(pile, many)
                if worths is not None:
                    # Those who get less than some coin get more than the lesser coins come to, or it goes to nobody.
                    self.assertTrue(any(
                        max(worths) < coin or sum(worth for worth in worths if worth < coin) > less(pile, coin)
                        for coin, _ in pile))

    def test_where_it_is_ready(self):
        for pile, many in (((), 1), ((), 60), (((1, 5),), 60), (((1, 5),), MANY), (((2, 1),), 1), (PILE, 1),
                           (((1, 8), (5, 1)), 3), (((1, MANY), (2, 1)), MANY + 1)):
            self.assertIsNone(self.check(pile, many))

    def test_lists_are_the_askers_own(self):
        first, second = undealt(((2, 1),), 2), undealt(((2, 1),), 2)
        self.assertEqual(first, second)
        first.clear()
        self.assertEqual(undealt(((2, 1),), 2), second)
        self.assertEqual(sum(second), 2)

    def test_refused_in_this_order(self):
        for bads in ((NO_PILES[::4], NO_NUMBERS_FROM_1), (NO_PILES, ()), ((), NO_NUMBERS_FROM_1)):
            for answers, expected in first_wrong(undealt, ("pile", "many"), (PILE, 2), bads, (NoPile, NoNumber)):
                self.assertEqual(answers, expected)
        for thing in NO_PILES:
            self.assertEqual(told_each_way(ready, (thing,), ("pile",)), [(NoPile, {})] * 2)


def tables_coin_by_coin(pile, seats):
    """What tables tells, by the words of point [32]."""
    lacks = [worth for _, worth in seats]
    coins = [[] for _ in seats]
    for coin in sorted((worth for worth, many in pile for _ in range(many)), reverse=True):
        best = max(range(len(seats)), key=lambda at: (lacks[at] - seats[at][0] * (coin - 1), -at))
        if coin > lacks[best] - (seats[best][0] - 1) * (coin - 1):
            return (Stuck, {"worth": coin})
        coins[best].append(coin)
        lacks[best] -= coin
    return [pile_of(row) for row in coins]


class TestTables(unittest.TestCase):
    def check(self, pile, seats):
        answers = told_each_way(tables, (pile, seats), ("pile", "seats"))
        with self.subTest(pile=pile, seats=seats):
            self.assertEqual(answers, [tables_coin_by_coin(pile, seats)] * 3)
            greatest = ready(pile)
            if isinstance(answers[0], tuple):
                self.assertLess(greatest, sum(many for many, _ in seats))
                return False
            total = ()
            for each, (many, worth) in zip(answers[0], seats):
                self.assertEqual(whole(each), worth)
                self.assertTrue(ready(each) is None or ready(each) >= many)
                total = put(total, each)
            self.assertEqual(total, pile)
            return True

    def test_by_the_rule(self):
        rand = random.Random(81)
        ways = {True: 0, False: 0}
        for pile in SMALL_PILES + list(GREATER_PILES) * 20:
            for count in (1, 2, 2, 3):
                cuts = [0] + sorted(rand.randint(0, whole(pile)) for _ in range(count - 1)) + [whole(pile)]
                seats = [(rand.randint(1, 3), high - low) for low, high in zip(cuts, cuts[1:])]
                ways[self.check(pile, seats)] += 1
        self.assertGreater(min(ways.values()), 100)

    def test_never_stuck_where_the_pile_is_ready_for_all_of_them(self):
        for pile in (((1, 12), (3, 2), (4, 2)), ((1, 20), (2, 9), (6, 4)), ((1, 30), (7, 2)), ((1, 9),)):
            for counts in itertools.product((1, 2, 3), repeat=2):
                if ready(pile) is None or sum(counts) <= ready(pile):
                    for first in range(whole(pile) + 1):
                        self.assertIs(self.check(pile, [(counts[0], first), (counts[1], whole(pile) - first)]), True)

    def test_tables(self):
        for pile, seats, expected in (
                ((), [(1, 0)], [()]), ((), [(60, 0), (3, 0)], [(), ()]), (PILE, [(1, 79)], [PILE]),
                (PILE, [(1, 0), (1, 79)], [(), PILE]), (((1, 4), (2, 2)), [(1, 4), (1, 4)], [((1, 2), (2, 1))] * 2),
                (((1, 3), (2, 1)), [(2, 5)], [((1, 3), (2, 1))]), (((1, 3), (2, 1)), [(4, 5)], [((1, 3), (2, 1))]),
                (((1, 3), (2, 1)), [(5, 5)], (Stuck, {"worth": 2})),
                (((5, 1),), [(1, 4), (1, 1)], (Stuck, {"worth": 5})),
                (((1, 2), (5, 1)), [(1, 4), (1, 3)], (Stuck, {"worth": 5})),
                (((1, 1), (2, 2)), [(1, 2), (1, 3)], [((2, 1),), ((1, 1), (2, 1))]),
                (((2, 2),), [(1, 2), (1, 2)], [((2, 1),), ((2, 1),)]),
                (((1, 6),), [(60, 2), (1, 4)], [((1, 2),), ((1, 4),)])):
            with self.subTest(pile=pile, seats=seats):
                self.check(pile, seats)
                self.assertEqual(told(tables, pile, seats), expected)

    def test_what_are_no_seats(self):
        for thing in (None, True, 0, 1, "", "ab", (), ((1, 79),), (1, 79), [], [()], [79], [[1, 79]], [(79,)],
                      [(1, 79, 1)],
                      [(1, 78)], [(1, 80)], [(0, 79)], [(-1, 79)], [(True, 79)], [(1, True), (1, 78)],
                      [(1, 79), (1, False)],
                      [(1, 80), (1, -1)], [(1, 79), (0, 0)], [(1, 79), (1, 0, 0)], [(1, 79), 0], [(1, 79), None],
                      [(1, "79")],
                      [("1", 79)], [(None, 79)], [(1, None)], [((1,), 79)], [(1, [79])], [(1, 39), (1, 39)], [(79, 1)],
                      nested(100000), nested(100000, list), [nested(100000)], [(1, nested(100000))],
                      [(nested(100000), 79)]):
            self.assertEqual(told_each_way(tables, (PILE, thing), ("pile", "seats")), [(NoParts, {})] * 3)
        for bad in NO_NUMBERS_FROM_1:
            self.assertEqual(told(tables, PILE, [(1, 79), (bad, 0)]), (NoParts, {}))
            if bad != 0 or isinstance(bad, bool):
                self.assertEqual(told(tables, PILE, [(1, 79), (1, bad)]), (NoParts, {}))
        self.assertEqual(told(tables, PILE, [(1, 79), (1, 0)]), [PILE, ()])

    def test_refused_in_this_order(self):
        for bads in ((NO_PILES, ()), ((), (None, [], [(1, 78)])), (NO_PILES[::5], (None, [], [(1, 78)]))):
            for answers, expected in first_wrong(tables, ("pile", "seats"), (PILE, [(1, 79)]), bads, (NoPile, NoParts)):
                self.assertEqual(answers, expected)
        for pile in (((1, 201),), ((201, 1),), ((67, 3),)):
            # TooGreat behind NoParts, ahead of Stuck.
            self.assertEqual(told_each_way(tables, (pile, [(1, 201)]), ("pile", "seats")), [(TooGreat, {})] * 3)
            self.assertEqual(told(tables, pile, [(1, 200)]), (NoParts, {}))
            self.assertEqual(told(tables, pile, [(1, 200), (9, 1)]), (TooGreat, {}))
        self.assertEqual(told(tables, ((200, 1),), [(1, 200)]), [((200, 1),)])

    def test_lists_are_the_askers_own(self):
        seats = [(1, 79)]
        first = tables(PILE, seats)
        first.append(())
        seats.clear()
        self.assertEqual(tables(PILE, [(1, 79)]), [PILE])


class TestShutGroup(unittest.TestCase):
    def check(self, purses):
        shut = [group for size in range(1, len(purses) + 1) for group in itertools.combinations(range(len(purses)),
                                                                                                size)
                if not self.can_settle([purses[place] for place in group])]
        answers = told_each_way(shut_group, (purses,), ("purses",))
        with self.subTest(purses=purses):
            self.assertEqual(answers, [shut[0] if shut else None] * 2)
        return answers[0]

    def can_settle(self, purses):
        pile = ()
        for purse in purses:
            pile = put(pile, purse)
        return is_ready(pile, len(purses)) if whole(pile) <= 9 else ready(pile) is None or ready(pile) >= len(purses)

    def test_all_groups_of_small_purses(self):
        rand = random.Random(82)
        ends = {}
        for count in (1, 2, 3, 3, 4, 5):
            for _ in range(60):
                group = self.check(rand.choices(piles_up_to(3) + [((1, 2),), ((1, 3),)] * 3, k=count))
                ends[group and len(group)] = ends.get(group and len(group), 0) + 1
        self.assertLessEqual({None, 2, 3}, set(ends))

    def test_great_groups(self):
        rand = random.Random(83)
        for count in (6, 7, 8):
            for _ in range(15):
                self.check(rand.choices((((1, 5), (2, 1)), ((1, 9), (3, 1)), ((1, 40), (9, 1)), ((1, 7),), ((2, 1),)),
                                        k=count))

    def test_by_the_sentence_in_brackets(self):
        rand = random.Random(84)
        for _ in range(300):
            purses = rand.choices(piles_up_to(5) + [((1, 9),), ((1, 12), (4, 1))] * 5, k=rand.randint(1, 6))
            sums = [less(own, worth) + sum(min(0, less(other, worth) - (worth - 1))
                                           for at, other in enumerate(purses) if at != holder)
                    for holder, own in enumerate(purses) for worth, _ in own if worth > 1]
            self.assertIs(shut_group(purses) is None, min(sums, default=0) >= 0)

    def test_shut_group(self):
        for purses, expected in (
                ([()], None), ([((2, 9),)], None), ([((2, 1),), ()], (0, 1)), ([(), ()], None),
                ([((1, 1),), ((2, 1),)], None),
                ([((1, 1),), ((3, 1),)], (0, 1)), ([((1, 2),), ((3, 1),), ()], (1, 2)),
                ([((1, 1),), ((2, 1),), ()], (1, 2)), ([((1, 1), (2, 1)), (), ((1, 1),)], None),
                ([((1, 1), (2, 1)), (), ()], (0, 1, 2)),
                ([(), ((1, 2), (2, 1)), ((1, 1),), (), ()], (0, 1, 3, 4)), ([((1, MANY),), ((MANY, 1),), ((MANY, 1),)], (1, 2))):
            with self.subTest(purses=purses):
                self.assertEqual(told_each_way(shut_group, (purses,), ("purses",)), [expected] * 2)

    def test_what_are_no_purses(self):
        for thing in (None, True, 0, "", (), (PILE,), (PILE, PILE), [], [()] * 9, [PILE] * 9, [None], [PILE, None],
                      [[]], [[(1, 1)]], [PILE, [(1, 1)]], PILE, nested(100000), nested(100000, list), [nested(100000)]):
            self.assertEqual(told_each_way(shut_group, (thing,), ("purses",)), [(NoPile, {})] * 2)
        for bad in NO_PILES:
            self.assertEqual(told(shut_group, [((2, 1),), (), bad]), (NoPile, {}))
            self.assertEqual(told(shut_group, [bad]), (NoPile, {}))
        self.assertIsNone(told(shut_group, [()] * 8))

    def test_purses_may_be_changed_behind_the_call(self):
        purses = [((2, 1),), ()]
        self.assertEqual(shut_group(purses), (0, 1))
        purses.pop()
        self.assertIsNone(shut_group(purses))


class TestSoon(unittest.TestCase):
    def test_great_ones_are_told_of_soon(self):
        pile = tuple((5 ** at, 10 ** 9) for at in range(12))
        purses = [tuple((5 ** at + each, 10 ** 9) for at in range(12)) for each in range(8)]
        ready_for_all = [((1, 10 ** 15),) + purse[1:] for purse in purses]
        for work, most_units in (
                (lambda: ready(pile), 1), (lambda: undealt(pile, 60), 1), (lambda: shut_group(purses), 20),
                (lambda: shut_group(ready_for_all), 20), (lambda: tables(((1, 200),), [(1, 0)] * 59 + [(1, 200)]), 20)):
            self.assertLess(seconds(work, 3), most_units * seconds(count_up, 3))
        self.assertIsNone(shut_group(ready_for_all))

    def test_what_is_no_such_thing_is_told_first(self):
        for row, place in one_or_more_wrong((((1, 201),), [(1, 201)]), (NO_PILES[::30], (None, [(2, 200)]))):
            self.assertEqual(told(tables, *row), ((NoPile, NoParts)[place], {}))


if __name__ == "__main__":
    unittest.main()
