"""Point [30], and what [2], [3] and [4] say of parted tills."""

import itertools
import random
import unittest

from blindtill.errors import NoParts, NoPile, NoRight, Stuck, TooGreat
from blindtill.most import most
from blindtill.parting import can_part, parted
from blindtill.piles import less, put, take, whole
from blindtill.serving import serves
from runs import NONE, all_of, any_rights, chance_rights
from things import (
    A, B, C, NO_PILES, NO_RIGHTS, SOME_NO_RIGHTS, count_up, first_wrong, nested, one_or_more_wrong, seconds, told,
    told_each_way, within)
from ways import lists_of, pile_of, piles_up_to, piles_within

MANY = 10 ** 12
PILE = ((1, 4), (5, 1), (10, 2), (50, 1))
RIGHTS = chance_rights(71, 6, 5)
SMALL_PILES = piles_up_to(9)
GREATER_PILES = (((1, 9), (4, 2), (10, 3)), ((2, 4), (5, 1)), ((1, 2), (3, 2), (7, 2)), ((5, 9),), ((1, 60),),
                 ((1, 12), (30, 2)), ((1, 3), (2, 2), (6, 1), (25, 2)), ((1, 1), (2, 1), (4, 1), (8, 1), (16, 1)))
BOTH = ("pile", "parts")
THREE = ("pile", "one", "other")


def stuck(worth):
    return (Stuck, {"worth": worth})


def parted_coin_by_coin(pile, parts):
    """What parted tells, by the words of point [30], each coin by itself."""
    lacks = [worth for worth, _ in parts]
    coins = [[] for _ in parts]
    for coin in sorted((worth for worth, many in pile for _ in range(many)), reverse=True):
        fitting = [at for at, (_, right) in enumerate(parts) if lacks[at] - coin >= most(right, below=coin)]
        if not fitting:
            return stuck(coin)
        coins[fitting[0]].append(coin)
        lacks[fitting[0]] -= coin
    return [pile_of(row) for row in coins]


def parts_by_chance(rand, total, rights):
    """The rights with worths by chance, none below its most, which come to the total; None where it is too little."""
    spare = total - sum(most(right) for right in rights)
    if spare < 0:
        return None
    cuts = [0] + sorted(rand.randint(0, spare) for _ in rights[1:]) + [spare]
    return [(most(right) + high - low, right) for right, low, high in zip(rights, cuts, cuts[1:])]


def is_never_stuck(pile, parts):
    """Whether the sentence in brackets of point [30] says that no coin is stuck."""
    return all(less(pile, coin) + coin - 1 >= sum(min(worth, coin - 1 + most(right, below=coin)) for worth,
                                                  right in parts)
               for coin, _ in pile if coin > 1)


class TestParted(unittest.TestCase):
    def check(self, pile, parts):
        answers = told_each_way(parted, (pile, parts), BOTH)
        answer = answers[0]
        with self.subTest(pile=pile, parts=parts):
            self.assertEqual(answers, [answer] * 3)
            self.assertEqual(answer, parted_coin_by_coin(pile, parts))
            if isinstance(answer, tuple):
                self.assertIs(is_never_stuck(pile, parts), False)
                return False
            total = ()
            for each, (worth, right) in zip(answer, parts):
                self.assertEqual(whole(each), worth)
                self.assertIs(serves(each, right), True)
                total = put(total, each)
            self.assertEqual(total, pile)
            return True

    def test_two_parts(self):
        rand = random.Random(74)
        ways = {True: 0, False: 0}
        for pile in SMALL_PILES[::5] + list(GREATER_PILES):
            for rights in itertools.product(RIGHTS[::11], RIGHTS[::13]):
                parts = parts_by_chance(rand, whole(pile), rights)
                if parts is not None:
                    ways[self.check(pile, parts)] += 1
        self.assertGreater(min(ways.values()), 100)

    def test_one_part_and_several(self):
        rand = random.Random(75)
        for pile in SMALL_PILES[::5] + list(GREATER_PILES):
            for count in (1, 1, 1, 3, 4, 6):
                for _ in range(4):
                    parts = parts_by_chance(rand, whole(pile), rand.choices(RIGHTS, k=count))
                    if parts is not None:
                        self.check(pile, parts)

    def test_all_worths_of_two_rights(self):
        for pile in (((1, 4), (2, 2), (5, 1)), ((1, 6), (4, 2))):
            for one, other in itertools.product((NONE, A[:2] + (2, 2), B, ("calls", 1, A)),
                                                (NONE, B, ("within", 4, C))):
                for worth in range(most(one), whole(pile) - most(other) + 1):
                    self.check(pile, [(worth, one), (whole(pile) - worth, other)])

    def test_parted(self):
        call = ("call", "a", 3, 1)
        for pile, parts, expected in (
                ((), [(0, NONE)], [()]), ((), [(0, NONE), (0, ("all", ()))], [(), ()]), (PILE, [(79, NONE)], [PILE]),
                (PILE, [(0, NONE), (79, NONE)], [(), PILE]), (PILE, [(29, NONE), (50, NONE)], [PILE[:3], PILE[3:]]),
                (PILE, [(30, NONE), (49, NONE)], stuck(50)), (PILE, [(19, NONE), (60, NONE)], [
                    ((1, 4), (5, 1), (10, 1)), ((10, 1), (50, 1))]),
                (PILE, [(60, NONE), (19, NONE)], [((10, 1), (50, 1)), ((1, 4), (5, 1), (10, 1))]),
                (((5, 2),), [(5, NONE), (5, call)], stuck(5)), (((1, 2), (5, 1)), [(7, call)], stuck(5)),
                (((1, 3), (5, 1)), [(8, call)], [((1, 3), (5, 1))]),
                (((1, 3), (5, 1)), [(3, call), (5, NONE)], [((1, 3),), ((5, 1),)]),
                (((1, 1), (5, 1)), [(6, call)], stuck(5)), (((2, 1), (3, 1)), [(1, NONE), (4, NONE)], stuck(2)),
                (((1, 2), (2, 2)), [(3, call), (3, call)], [((1, 1), (2, 1)), ((1, 1), (2, 1))]),
                (((1, 6), (3, 2)), [(6, call), (6, call)], [((1, 3), (3, 1)), ((1, 3), (3, 1))]),
                (((1, 6), (4, 1)), [(5, call), (5, call)], stuck(4))):
            with self.subTest(pile=pile, parts=parts):
                self.check(pile, parts)
                self.assertEqual(told(parted, pile, parts), expected)

    def test_names_may_stand_in_several_of_the_rights(self):
        self.assertEqual(parted(((1, 20),), [(10, A), (10, A)]), [((1, 10),), ((1, 10),)])
        self.assertEqual(parted(((1, 9),), [(3, within(5, B)), (6, within(5, B))]), [((1, 3),), ((1, 6),)])

    def test_rights_may_be_great_whose_sums_are_small(self):
        right = ("calls", 1, ("within", 3, ("call", "a", MANY, MANY)))
        self.assertEqual(parted(((1, 9),), [(3, right), (6, NONE)]), [((1, 3),), ((1, 6),)])

    def test_what_are_no_parts(self):
        for thing in (None, True, False, 0, 1, 79, "", "ab", (), ((79, NONE),), (79, NONE), [], [()], [79], [NONE],
                      [[79, NONE]],
                      [(79,)], [(79, NONE, 1)], [(NONE, 79)], [(79, NONE), 0], [(79, NONE), ()], [(79, NONE), None],
                      [(78, NONE)], [(80, NONE)], [(79, NONE), (1, NONE)], [(39, NONE), (39, NONE)],
                      [(-1, NONE), (80, NONE)],
                      [(80, NONE), (-1, NONE)], [(True, NONE), (78, NONE)], [(78, NONE), (True, NONE)],
                      [(79, NONE), (False, NONE)], [("79", NONE)], [(None, NONE)], [((79,), NONE)], [([79], NONE)],
                      [(79, ("call", "a", 80, 1))], [(79, ("call", "a", 79, 2))], [(9, A), (70, ("call", "a", 71, 1))],
                      [(2, B), (77, NONE)], [(9, A), (70, NONE)], nested(100000), nested(100000, list),
                      [nested(100000)],
                      [(79, nested(100000))], [(nested(100000), NONE)], [(79, nested(100000, list))]):
            self.assertEqual(told_each_way(parted, (PILE, thing), BOTH), [(NoParts, {})] * 3)
        for right in NO_RIGHTS:
            self.assertEqual(told(parted, PILE, [(79, right)]), (NoParts, {}))
            self.assertEqual(told(parted, PILE, [(40, NONE), (39, right)]), (NoParts, {}))
        self.assertEqual(told(parted, (), [(1, NONE)]), (NoParts, {}))

    def test_refused_in_this_order(self):
        good = [(79, NONE)]
        for bads in ((NO_PILES, ()), ((), (None, [], [(78, NONE)])),
                     (NO_PILES[::5], (None, [(79, None)], [(78, NONE)]))):
            for answers, expected in first_wrong(parted, BOTH, (PILE, good), bads, (NoPile, NoParts)):
                self.assertEqual(answers, expected)
        for pile in (((1, 201),), ((201, 1),), ((67, 3),)):
            self.assertEqual(told_each_way(parted, (pile, [(201, NONE)]), BOTH), [(TooGreat, {})] * 3)
            # TooGreat behind NoParts, ahead of Stuck.
            self.assertEqual(told(parted, pile, [(200, NONE)]), (NoParts, {}))
            self.assertEqual(told(parted, pile, [(200, NONE), (1, NONE)]), (TooGreat, {}))
        self.assertEqual(told(parted, ((1, 200),), [(1, NONE), (199, NONE)]), [((1, 1),), ((1, 199),)])

    def test_lists_are_the_askers_own(self):
        parts = [(29, NONE), (50, NONE)]
        first, second = parted(PILE, parts), parted(PILE, parts)
        first.clear()
        parts.clear()
        self.assertEqual(second, [PILE[:3], PILE[3:]])
        self.assertEqual(parted(PILE, [(29, NONE), (50, NONE)]), second)


class TestCanPart(unittest.TestCase):
    def check(self, pile, one, other):
        answers = told_each_way(can_part, (pile, one, other), THREE)
        pairs = [(take(pile, second), second) for second in sorted(piles_within(pile))]
        fitting = [pair for pair in pairs if serves(pair[0], one) and serves(pair[1], other)]
        with self.subTest(pile=pile, one=one, other=other):
            self.assertEqual(answers, [fitting[0] if fitting else None] * 4)
        return answers[0]

    def test_against_all_pairs(self):
        parted_ones = 0
        for pile in SMALL_PILES[::5] + list(GREATER_PILES[:4]):
            for one, other in itertools.product(RIGHTS[::17], RIGHTS[::19]):
                parted_ones += self.check(pile, one, other) is not None
        self.assertGreater(parted_ones, 100)

    def test_can_part(self):
        for pile, one, other, expected in (
                ((), NONE, NONE, ((), ())), (PILE, NONE, NONE, (PILE, ())), (((1, 3),), NONE, B, ((), ((1, 3),))),
                (((1, 6), (2, 1)), B, B, (((1, 5),), ((1, 1), (2, 1)))), (((1, 6),), B, B, (((1, 3),), ((1, 3),))),
                (((1, 6), (4, 1)), B, B, (((1, 3), (4, 1)), ((1, 3),))),
                (((1, 3),), B, B, None), (((1, 3),), B, NONE, (((1, 3),), ())),
                (((1, 1), (2, 1)), B, ("call", "b", 1, 1), None)):
            self.assertEqual(self.check(pile, one, other), expected)

    def test_a_pile_may_serve_all_of_both_and_cannot_be_so_parted(self):
        both = 0
        for pile in SMALL_PILES:
            for one, other in itertools.product(RIGHTS[::13], RIGHTS[::17]):
                if serves(pile, all_of(one, other)) and can_part(pile, one, other) is None:
                    both += 1
        self.assertGreater(both, 0)

    def test_too_great(self):
        for pile in (((1, 201),), ((201, 1),), tuple((worth, 1) for worth in range(1, 12)),
                     tuple((worth, 2) for worth in range(1, 8)), ((1, 2), (2, 22), (3, 28))):
            self.assertEqual(told_each_way(can_part, (pile, A, B), THREE), [(TooGreat, {})] * 4)
        # 1,999 and 2,000 of them: (1 + 1) * (1 + 1) * (4 + 1) * (9 + 1) * (9 + 1).
        pile = ((1, 9), (2, 9), (3, 4), (4, 1), (5, 1))
        self.assertEqual(len(piles_within(pile)), 2000)
        self.assertIsInstance(told(can_part, pile, A, A), tuple)
        self.assertNotEqual(told(can_part, pile, A, A), (TooGreat, {}))
        self.assertEqual(told(can_part, ((1, 9), (2, 9), (3, 4), (4, 1), (5, 2)), A, A), (TooGreat, {}))
        self.assertEqual(told(can_part, ((1, 200),), A, A)[1], ((1, 10),))

    def test_refused_in_this_order(self):
        few = NO_PILES[::12]
        for bads in ((few, SOME_NO_RIGHTS[::3], SOME_NO_RIGHTS[::4]), (NO_PILES, (), ()), ((), NO_RIGHTS, ()),
                     ((), (), NO_RIGHTS)):
            for answers, expected in first_wrong(can_part, THREE, (PILE, A, B), bads, (NoPile, NoRight, NoRight)):
                self.assertEqual(answers, expected)
        for row, place in one_or_more_wrong((((1, 201),), A, B), (NO_PILES[::30], (None,), (None,))):
            self.assertEqual(told(can_part, *row), ((NoPile, NoRight, NoRight)[place], {}))

    def test_rights_need_not_be_small(self):
        great = ("call", "a", MANY, MANY)
        self.assertIsNone(can_part(((1, 9),), great, NONE))
        self.assertIsNone(can_part(((1, 9),), NONE, great))
        self.assertEqual(can_part(((1, 9),), ("within", 4, great), ("calls", 1, ("within", 5, great))),
                         (((1, 4),), ((1, 5),)))


class TestSoon(unittest.TestCase):
    def test_great_ones_are_told_of_soon(self):
        choices = ("within", 20, ("calls", 11, ("all", tuple(("one", tuple(
            ("call", "abcdefghijkl"[3 * at + way], (200, 99, 75)[way] - at, way + 1) for way in range(3)))
            for at in range(4)))))
        pile = ((1, 9), (2, 9), (3, 4), (4, 1), (5, 1))
        self.assertLess(seconds(lambda: can_part(pile, choices, choices), 2), 40 * seconds(count_up, 3))
        self.assertLess(seconds(lambda: can_part(pile, choices, ("call", "a", 47, 1)), 2), 40 * seconds(count_up, 3))
        parts = [(20, choices)] * 9 + [(20, NONE)]
        self.assertLess(seconds(lambda: parted(((1, 190), (10, 1)), parts), 2), 20 * seconds(count_up, 3))
        parts = [(3, B)] * 60 + [(20, NONE)]
        self.assertLess(seconds(lambda: told(parted, ((1, 110), (2, 45)), parts), 2), 5 * seconds(count_up, 3))

    def test_greater_rights_by_chance(self):
        for one, other in zip(any_rights(72, 30, "abcdef", 9, 3), any_rights(73, 30, "abcdef", 9, 3)):
            pile = ((1, 60), (3, 20), (8, 10))
            total = most(one)
            if total <= 140 and most(other) <= 200 - total:
                answer = told(parted, pile, [(total, one), (200 - total, other)])
                self.assertEqual(answer, parted_coin_by_coin(pile, [(total, one), (200 - total, other)]))


class TestAllWays(unittest.TestCase):
    def test_each_list_of_worths_of_small_piles(self):
        for pile in piles_up_to(6):
            for worths in lists_of(whole(pile), 6):
                parts = [(worth, NONE) for worth in worths] or [(0, NONE)]
                self.assertEqual(told(parted, pile, parts), parted_coin_by_coin(pile, parts))


if __name__ == "__main__":
    unittest.main()
