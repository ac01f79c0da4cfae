"""Points [17] and [18], and what [2], [3] and [4] say of room."""

import itertools
import unittest

from blindtill.clerk import pay
from blindtill.errors import NoCall, NoName, NoNumber, NoPile, NoRight, TooGreat
from blindtill.piles import payings, take, whole
from blindtill.rights import behind, may
from blindtill.room import copies, room, roomiest
from blindtill.serving import serves
from runs import NONE, all_of, any_rights, chance_rights, fails_at, names_in
from things import (
    A, B, C, NO_NAMES, NO_NUMBERS_FROM_1, NO_PILES, NO_RIGHTS, count_up, first_wrong, one_or_more_wrong, seconds, told,
    told_each_way, unserved, within)
from ways import is_honoured, piles_up_to

MANY = 10 ** 12
PILE = ((1, 4), (5, 1), (10, 2), (50, 1))
SMALL_PILES = piles_up_to(8)
GREATER_PILES = (((1, 9), (4, 2), (10, 3)), ((1, 4), (2, 3), (5, 1)), ((1, 5), (6, 2), (7, 1)),
                 ((1, 3), (4, 1), (8, 2)),
                 ((1, 40), (2, 10), (25, 2)), ((1, 90),), ((2, 1), (3, 1)), ((1, 2), (2, 1), (3, 1), (6, 1), (12, 1)))
RIGHTS = chance_rights(31, 12, 6)
TIMES_TWO = ((1, 62), (2, 4), (3, 4), (4, 4), (5, 1), (6, 1), (7, 1), (8, 1))
WORDS = ("pile", "right", "name", "amount")


def call_of(amount, times=1):
    return ("call", "n", amount, times)


def room_by_serves(pile, right):
    """The greatest call that may be promised beside a right that the pile serves, tried one by one."""
    greatest = 0
    while serves(pile, all_of(right, call_of(greatest + 1))):
        greatest += 1
    return greatest


class TestRoom(unittest.TestCase):
    def test_room(self):
        for pile, right, expected in (
                ((), NONE, 0), (((1, 1),), NONE, 1), (((2, 1),), NONE, 0), (((2, 9),), NONE, 0), (((1, 5),), NONE, 5),
                (((1, 1), (2, 1)), NONE, 3), (((1, 1), (3, 1)), NONE, 1), (((1, 2), (3, 1)), NONE, 5),
                (((1, 4), (2, 2), (5, 2)), A, 0), (((1, 9), (5, 2)), A, 1), (((1, 12), (5, 2)), A, 12),
                (((1, 11), (5, 2)), A, 3), (PILE, NONE, 29), (PILE[:3], NONE, 29), (PILE, call_of(4), 0),
                (PILE, call_of(3), 1),
                (PILE, call_of(2), 2), (((1, 5), (3, 1), (10, 1)), call_of(2), 6),
                (((1, 4), (3, 3), (10, 1)), call_of(3), 20), (((1, 4), (3, 2), (10, 1)), call_of(3), 7)):
            with self.subTest(pile=pile, right=right):
                self.assertEqual(told_each_way(room, (pile, right), ("pile", "right")), [expected] * 3)

    def test_a_call_of_up_to_the_room_is_served_and_of_one_more_not(self):
        for pile, right in itertools.product(SMALL_PILES[::2] + list(GREATER_PILES), RIGHTS):
            with self.subTest(pile=pile, right=right):
                failing = fails_at(pile, right)
                expected = unserved(failing[0]) if failing else room_by_serves(pile, right)
                self.assertEqual(told(room, pile, right), expected)

    def test_the_room_against_all_ways_of_paying(self):
        for pile, right in itertools.product(piles_up_to(5), chance_rights(32, 4, 3, "ab", 3)[::3]):
            answer = told(room, pile, right)
            if is_honoured(pile, right):
                with self.subTest(pile=pile, right=right):
                    self.assertTrue(answer == 0 or is_honoured(pile, all_of(right, call_of(answer))))
                    self.assertFalse(is_honoured(pile, all_of(right, call_of(answer + 1))))

    def test_great_numbers(self):
        pile = ((1, MANY), (10 ** 9, 5), (MANY, 1))
        total = 2 * MANY + 5 * 10 ** 9
        for right, expected in (
                (NONE, total), (call_of(1, MANY), 0), (call_of(1, MANY - 7), 7),
                (call_of(1, MANY - 10 ** 9 + 1), 6 * 10 ** 9 - 1),
                (call_of(1, MANY - 10 ** 9 + 2), 10 ** 9 - 2), (call_of(total), 0), (call_of(MANY), 10 ** 9 * 5 + 1),
                (call_of(10 ** 30), unserved(None)), (call_of(1, 10 ** 30), unserved(10 ** 9))):
            with self.subTest(right=right):
                self.assertEqual(told(room, pile, right), expected)


class TestCopies(unittest.TestCase):
    def test_copies(self):
        for pile, right, other, expected in (
                ((), NONE, NONE, None), ((), NONE, A, 0), (((1, 9),), NONE, NONE, None), (((1, 9),), A, ("all", ()), 0),
                (((1, 9),), NONE, call_of(3), 3), (((1, 9),), NONE, call_of(2), 4),
                (((1, 9),), call_of(2), call_of(3), 2),
                (((1, 9), (5, 2)), NONE, call_of(4), 2), (((1, 9), (5, 2)), NONE, call_of(5), 2),
                (((1, 12), (5, 2)), NONE, call_of(5), 3), (((1, 12), (5, 2)), NONE, call_of(11), 2),
                (((1, 12), (5, 2)), NONE, call_of(12), 1), (((2, 5),), NONE, call_of(2), 0)):
            expected = unserved(None) if right == A else expected
            with self.subTest(pile=pile, right=right, other=other):
                answers = told_each_way(copies, (pile, right, other), ("pile", "right", "other"))
                self.assertEqual(answers, [expected] * 4)

    def test_so_many_are_served_and_one_more_not(self):
        others = chance_rights(33, 9, 4, "ab", 3)[::9] + [NONE, ("one", ()), ("within", 3, C)]
        for pile, right in itertools.product(SMALL_PILES[::6] + list(GREATER_PILES), RIGHTS[::7]):
            failing = fails_at(pile, right)
            for other in others:
                answer = told(copies, pile, right, other)
                with self.subTest(pile=pile, right=right, other=other):
                    if failing:
                        self.assertEqual(answer, unserved(failing[0]))
                    elif not names_in(other):
                        self.assertIsNone(answer)
                    else:
                        self.assertIs(serves(pile, all_of(right, *[other] * min(answer, 20))), True)
                        if answer < 20:
                            self.assertIs(serves(pile, all_of(right, *[other] * (answer + 1))), False)

    def test_great_numbers(self):
        pile = ((1, MANY), (10 ** 9, 5))
        for right, other, expected in (
                (NONE, call_of(1), MANY), (NONE, call_of(10 ** 9 - 1), 1000), (NONE, call_of(10 ** 9), 1000),
                (call_of(10 ** 9), call_of(1), MANY - 10 ** 9 + 1), (NONE, call_of(1, MANY), 1),
                (NONE, call_of(1, MANY + 1), 0), (NONE, call_of(10 ** 30), 0), (call_of(3), NONE, None)):
            self.assertEqual(told(copies, pile, right, other), expected)


class TestRoomiest(unittest.TestCase):
    def check(self, pile, right, name, amount):
        """Hold what is told against all payings, each behind each tried one by one."""
        best = None
        for paying in payings(pile, amount):
            left, rest = take(pile, paying), behind(right, name, amount)
            if serves(left, rest):
                greatest = room_by_serves(left, rest)
                if best is None or greatest > best[0]:
                    best = (greatest, paying)
        with self.subTest(pile=pile, right=right, name=name, amount=amount):
            self.assertEqual(told_each_way(roomiest, (pile, right, name, amount), WORDS), [best] * 5)
            self.assertGreaterEqual(best[0], room(take(pile, pay(pile, amount)), behind(right, name, amount)))

    def test_against_all_payings(self):
        looked_at = 0
        for pile, right in itertools.product(SMALL_PILES[::3] + list(GREATER_PILES[1:6]), RIGHTS[::4]):
            if serves(pile, right):
                for name in names_in(right):
                    for amount in range(1, may(right, name) + 1):
                        looked_at += 1
                        self.check(pile, right, name, amount)
        self.assertGreater(looked_at, 200)

    def test_of_like_ones_the_first(self):
        for pile, right, amount, expected in (
                (((1, 4), (2, 2)), call_of(4), 4, (4, ((1, 2), (2, 1)))),
                (((1, 6), (2, 2), (3, 2)), call_of(6), 6, (10, ((1, 1), (2, 1), (3, 1)))),
                (((1, 9), (5, 1)), call_of(5), 5, (9, ((1, 5),))), (((1, 1),), call_of(1), 1, (0, ((1, 1),))),
                (((1, 5),), call_of(3), 2, (3, ((1, 2),)))):
            with self.subTest(pile=pile, right=right, amount=amount):
                self.check(pile, right, "n", amount)
                self.assertEqual(roomiest(pile, right, "n", amount), expected)

    def test_the_blind_clerk_may_leave_less_room(self):
        less_room = 0
        for pile in piles_up_to(12):
            for amount in range(1, whole(pile) + 1):
                if serves(pile, call_of(amount)):
                    told_room, paying = roomiest(pile, call_of(amount), "n", amount)
                    own = room(take(pile, pay(pile, amount)), NONE)
                    less_room += own < told_room
                    self.assertEqual(room(take(pile, paying), NONE), told_room)
        self.assertGreater(less_room, 0)

    def test_too_great(self):
        for pile, right, amount in ((((1, 201),), call_of(9), 1), (((201, 1),), call_of(9), 9),
                                    (((201, 1),), call_of(MANY), MANY)):
            self.assertEqual(told_each_way(roomiest, (pile, right, "n", amount), WORDS), [(TooGreat, {})] * 5)
        pile = ((1, 40),) + tuple((worth, 2) for worth in range(2, 13))
        self.assertEqual(told(roomiest, pile, call_of(60), "n", 60), (TooGreat, {}))
        # Also where the right isn't served.
        self.assertEqual(told(roomiest, pile[1:], call_of(60), "n", 60), (TooGreat, {}))
        self.assertEqual(told(roomiest, pile[1:], call_of(60), "n", 1), unserved(2))
        # What isn't small, of the right, is told of.
        self.assertEqual(told(roomiest, ((1, 9),), ("within", MANY, call_of(9)), "n", 9), (0, ((1, 9),)))
        self.assertEqual(told(roomiest, ((1, 9),), call_of(MANY), "n", 9), unserved(None))


class TestRefusals(unittest.TestCase):
    def test_what_is_first_wrong_is_told(self):
        piles, rights = NO_PILES[::6], NO_RIGHTS[::9]
        for bads in ((piles, rights), (NO_PILES, ()), ((), NO_RIGHTS)):
            for answers, expected in first_wrong(room, ("pile", "right"), (PILE, B), bads, (NoPile, NoRight)):
                self.assertEqual(answers, expected)
        for bads in ((piles[::4], rights[::4], rights[1::4]), (NO_PILES, (), ()), ((), NO_RIGHTS, ()),
                     ((), (), NO_RIGHTS)):
            for answers, expected in first_wrong(copies, ("pile", "right", "other"), (PILE, B, C), bads,
                                                 (NoPile, NoRight, NoRight)):
                self.assertEqual(answers, expected)
        few = (piles[::5], rights[::6], NO_NAMES[::8], NO_NUMBERS_FROM_1[::5])
        for bads in (few, (NO_PILES, (), (), ()), ((), NO_RIGHTS, (), ()), ((), (), NO_NAMES, ()),
                     ((), (), (), NO_NUMBERS_FROM_1)):
            for answers, expected in first_wrong(roomiest, WORDS, (PILE, B, "b", 3), bads,
                                                 (NoPile, NoRight, NoName, NoNumber)):
                self.assertEqual(answers, expected)

    def test_what_is_no_such_thing_is_told_ahead_of_all_others(self):
        # None of these piles serves the right, and roomiest's is too great, too, for calls that may not be made.
        pile, right = ((1, 1), (201, 1)), call_of(300)
        for row, place in one_or_more_wrong((pile, right, "x", 301), ((None,), (None,), (None,), (0,))):
            self.assertEqual(told(roomiest, *row), ((NoPile, NoRight, NoName, NoNumber)[place], {}))
        self.assertEqual(told(room, pile, right), unserved(201))
        self.assertEqual(told(copies, pile, right, None), (NoRight, {}))
        self.assertEqual(told(copies, pile, None, right), (NoRight, {}))

    def test_calls_that_may_not_be_made(self):
        no_call = (NoCall, {"place": None})
        right = ("all", (("within", 3, A), B))
        for name, amount in (("a", 4), ("b", 4), ("c", 1), ("a", MANY), ("aa", 1)):
            # Told ahead of TooGreat and of Unserved.
            for pile in (PILE, ((1, 201),), ()):
                self.assertEqual(told_each_way(roomiest, (pile, right, name, amount), WORDS), [no_call] * 5)
        self.assertEqual(told(roomiest, ((1, 9),), right, "a", 3), (3, ((1, 3),)))
        self.assertEqual(told(roomiest, ((1, 9),), NONE, "a", 3), no_call)

    def test_unserved_tells_the_least_worth(self):
        for pile, right, worth in ((((2, 1), (3, 1)), call_of(1), 2), (((1, 1), (3, 1), (5, 1)), call_of(2), 3),
                                   (((1, 1), (2, 1), (5, 1)), call_of(4), 5), (((1, 1), (2, 1)), call_of(4), None),
                                   (((1, 1), (2, 1), (5, 1)), call_of(9), 5), ((), call_of(1), None)):
            self.assertEqual(told(room, pile, right), unserved(worth))
            self.assertEqual(told(copies, pile, right, NONE), unserved(worth))
            self.assertEqual(told(copies, pile, right, B), unserved(worth))
            self.assertEqual(told(roomiest, pile, right, "n", 1), unserved(worth))

    def test_deep_rights(self):
        self.assertEqual(told(room, ((1, 30),), within(5, A)), 21)
        self.assertEqual(told(copies, ((1, 30),), within(5, A), within(5, A)), 2)
        self.assertEqual(told(roomiest, ((1, 30),), within(5, A), "a", 5), (21, ((1, 5),)))


class TestSoon(unittest.TestCase):
    def test_great_tills_and_rights_are_told_of_soon(self):
        pile = tuple((5 ** power, 10 ** 9) for power in range(12))
        choices = ("all", tuple(("one", tuple(("call", "abcdefghijkl"[at + way], 10 ** (9 - way), 20 ** way)
                                              for way in range(3))) for at in (0, 3, 6, 9)))
        for right in (("calls", 59, choices), ("calls", 7, choices)):
            self.assertLess(seconds(lambda: told(room, pile, right), 3), 4 * seconds(count_up, 3))
            self.assertLess(seconds(lambda: told(copies, pile, NONE, right), 3), 4 * seconds(count_up, 3))

    def test_two_thousand_payings_are_looked_at_soon(self):
        right = ("calls", 3, ("call", "n", 62, 2))
        self.assertEqual(len(payings(TIMES_TWO, 62)), 2000)
        self.assertIs(serves(TIMES_TWO, ("within", 62, right)), True)
        self.assertLess(seconds(lambda: roomiest(TIMES_TWO, ("within", 62, right), "n", 62), 3),
                        30 * seconds(count_up, 3))

    def test_rights_by_chance_at_great_tills(self):
        pile = ((1, 120), (3, 20), (10, 2))
        for right in any_rights(34, 40, "abcdefghijkl", 20, 3):
            failing = fails_at(pile, right)
            expected = unserved(failing[0]) if failing else room_by_serves(pile, right)
            self.assertEqual(told(room, pile, right), expected)


if __name__ == "__main__":
    unittest.main()
