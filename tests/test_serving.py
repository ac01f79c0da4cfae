"""Points [12] and [13], and what [2], [3] and [4] say of which rights a till serves."""

import itertools
import unittest

from blindtill.errors import NoPile, NoRight, TooGreat
from blindtill.most import longest, most
from blindtill.piles import less, payings, take, whole
from blindtill.rights import after, behind, is_right
from blindtill.serving import judge_stump, serves, stumped
from runs import NONE, all_runs, any_rights, mosts_in, names_in, rights_of_two_forms, times_in
from things import (
    A, B, C, NO_CALLS, NO_LISTS, NO_NUMBERS, NO_PILES, NO_RIGHTS, count_up, nested, one_or_more_wrong, seconds, told,
    told_each_way)
from ways import amounts_of, can_be_paid, is_honoured, piles_up_to

MANY = 10 ** 12
SMALL_PILES = piles_up_to(7)
SMALL = [right for right in rights_of_two_forms()[::3] + any_rights(7, 200, "abc", 4, 2)
         if most(right) <= 9 and longest(right) <= 4]
PILE = ((1, 3), (2, 1), (5, 2))


def runs_of_calls(right, calls):
    """All runs of so many calls at most, of whatever amounts."""
    return all_runs(right, calls, range(1, max(mosts_in(right), default=0) + 1))


def stump_worths(pile, run):
    """The worths with which a run is such a tuple as stumped tells, None behind them."""
    amounts = amounts_of(run)
    worths = [worth for worth, _ in pile if max(amounts, default=worth) < worth and sum(amounts) > less(pile, worth)]
    return worths + [None] * (sum(amounts) > whole(pile))


class TestServes(unittest.TestCase):
    def test_by_one_sum_for_each_coin(self):
        for pile, right, expected in (
                ((), NONE, True), ((), ("call", "a", 1, 1), False), (((1, 1),), ("call", "a", 1, 1), True),
                (((2, 1),), ("call", "a", 2, 1), False), (((1, 1), (2, 1)), ("call", "a", 2, 1), True),
                (((1, 1), (2, 1)), ("call", "a", 3, 1), True), (((1, 1), (2, 1)), ("call", "a", 4, 1), False),
                (((1, 1), (2, 1)), ("call", "a", 1, 2), False), (((1, 2), (2, 1)), ("call", "a", 1, 2), True),
                (((1, 2), (2, 1)), ("call", "a", 2, 2), True), (((1, 1), (3, 1)), ("call", "a", 2, 1), False),
                (((1, 2), (3, 1)), ("call", "a", 2, 1), True), (((1, 3), (3, 1)), ("call", "a", 2, 2), False),
                (((1, 4), (3, 1)), ("call", "a", 2, 2), True), (((5, 9),), NONE, True), (PILE, A, False),
                (((1, 4), (2, 2), (5, 2)), A, True), (((1, 4), (2, 1), (5, 2)), A, False),
                (((1, 4), (2, 2), (5, 2)), ("within", 5, A), True), (((1, 2), (2, 2), (5, 1)), ("calls", 1, A), True)):
            with self.subTest(pile=pile, right=right):
                self.assertEqual(told_each_way(serves, (pile, right), ("pile", "right")), [expected] * 3)
                self.assertIs(serves(pile, right), expected)

    def test_small_tills_against_all_ways_of_paying(self):
        for pile in SMALL_PILES:
            for right in SMALL:
                with self.subTest(pile=pile, right=right):
                    self.assertIs(serves(pile, right), is_honoured(pile, right))

    def test_small_tills_against_rows_known_ahead(self):
        for right in SMALL[::5]:
            rows = {amounts_of(run) for run in runs_of_calls(right, longest(right))}
            for pile in SMALL_PILES:
                with self.subTest(pile=pile, right=right):
                    self.assertIs(serves(pile, right), all(can_be_paid(pile, row) for row in rows))

    def test_what_is_left_of_some_paying_serves_what_is_behind(self):
        for pile in SMALL_PILES[::3]:
            for right in SMALL[::7]:
                for run in runs_of_calls(right, 1):
                    if run and serves(pile, right):
                        name, amount = run[0]
                        left = [take(pile, paying) for paying in payings(pile, amount)]
                        self.assertTrue(any(serves(rest, behind(right, name, amount)) for rest in left))

    def test_great_sums_at_their_edges(self):
        coins = ((1, MANY), (10 ** 9, 3), (MANY, 1))
        whole_sum = 2 * MANY + 3 * 10 ** 9
        for right, expected in (
                (("call", "a", MANY, 1), True), (("call", "a", whole_sum, 1), True),
                (("call", "a", whole_sum + 1, 1), False), (("call", "a", 1, MANY), True),
                (("call", "a", 1, MANY + 1), False), (("call", "a", 10 ** 9 - 1, 1000), True),
                (("call", "a", 10 ** 9 - 1, 1001), False), (("within", MANY, ("call", "a", 10 ** 9 - 1, 1001)), True),
                (("calls", 1000, ("call", "a", 10 ** 9 - 1, 1001)), True),
                (("call", "a", 10 ** 9, 1000), True), (("call", "a", 10 ** 9, 1001), False),
                (("call", "a", MANY, 2), False), (("within", 3 * 10 ** 9 + MANY, ("call", "a", MANY, 2)), True),
                (("within", whole_sum, C), True)):
            with self.subTest(right=right):
                self.assertIs(serves(coins, right), expected)
                self.assertIs(stumped(coins, right) is None if times_in(right) <= 60 else expected, expected)

    def test_the_numbers_of_the_pile_may_be_very_great(self):
        coins = ((1, 10 ** 30), (10 ** 30, 10 ** 30))
        self.assertIs(serves(coins, ("call", "a", 10 ** 30, 10 ** 30)), False)
        self.assertIs(serves(coins, ("call", "a", 10 ** 30, 1)), True)
        self.assertIs(serves(coins, ("within", 10 ** 30, ("call", "a", 10 ** 30, 10 ** 30))), True)


class TestStumped(unittest.TestCase):
    def check(self, pile, right):
        """Ask for a run that stumps, and look whether it is one of fewest calls at the least worth."""
        answer = told_each_way(stumped, (pile, right), ("pile", "right"))[0]
        with self.subTest(pile=pile, right=right):
            if serves(pile, right):
                self.assertIsNone(answer)
                return
            worth, run = answer
            self.assertIs(type(answer), tuple)
            self.assertIs(type(run), list)
            self.assertIs(is_right(after(right, run)), True)
            self.assertIn(worth, stump_worths(pile, run))
            self.assertIs(judge_stump(pile, right, answer), True)
            self.assertIs(judge_stump(pile, right=right, thing=(worth, list(run))), True)
            at = [least for least, _ in pile].index(worth) if worth is not None else len(pile)
            for count in range(len(run) + 1):
                lesser = [less_worth for less_worth, _ in pile[:at]] if count == len(run) else [
                    each for each, _ in pile] + [None]
                for each in lesser:
                    bound = whole(pile) if each is None else less(pile, each)
                    self.assertLessEqual(most(right, below=each, calls=count), bound)

    def test_small_tills_and_rights(self):
        for pile, right in itertools.product(SMALL_PILES, SMALL[::3]):
            self.check(pile, right)

    def test_greater_tills_and_rights(self):
        piles = (((1, 9), (4, 2), (10, 3)), ((2, 3), (3, 3), (25, 1)), ((1, 4), (5, 1), (10, 4)), ((7, 9),),
                 tuple((2 ** power, 2) for power in range(12)), ((1, MANY), (10 ** 9, 5)))
        for right in any_rights(8, 150, "abcdefghijkl", 40, 3) + any_rights(9, 50, "abcdef", 10 ** 12, 5):
            for pile in piles:
                self.check(pile, right)

    def test_the_run_is_one_that_no_way_of_paying_outlives(self):
        for pile, right in itertools.product(SMALL_PILES, SMALL[::4]):
            told_run = stumped(pile, right)
            if told_run is not None:
                self.assertIs(can_be_paid(pile, amounts_of(told_run[1])), False)

    def test_no_run_of_fewer_calls_stumps(self):
        for pile, right in itertools.product(SMALL_PILES[::2], SMALL[::9]):
            told_run = stumped(pile, right)
            fewer = longest(right) if told_run is None else len(told_run[1]) - 1
            for run in runs_of_calls(right, fewer):
                self.assertEqual(stump_worths(pile, run), [])
                self.assertIs(can_be_paid(pile, amounts_of(run)), True)

    def test_fewest_calls_then_the_least_worth(self):
        for pile, right, worth, count in (
                ((), ("call", "a", 3, 2), None, 1), (((1, 1),), ("call", "a", 1, 2), None, 2),
                (((1, 1), (2, 1)), ("call", "a", 1, 2), 2, 2), (((3, 1),), ("call", "a", 2, 9), 3, 1),
                (((2, 1), (3, 1)), ("call", "a", 1, 9), 2, 1), (((3, 1),), ("call", "a", 4, 9), 3, 1),
                (((1, 1), (2, 1), (4, 1)), ("call", "a", 8, 9), None, 1),
                (((1, 2), (2, 1), (4, 2)), ("call", "a", 3, 2), 4, 2), (((1, 9), (8, 1)), ("call", "a", 7, 9), 8, 2),
                (((1, 9), (50, 1), (90, 1)), ("call", "a", 49, 60), 50, 1),
                (((1, 60), (50, 1), (90, 1)), ("call", "a", 49, 60), 50, 2),
                (((1, 20), (10, 1), (12, 1)), ("one", (("call", "a", 9, 3), ("call", "b", 11, 3))), 10, 3),
                (((1, 20), (10, 1), (20, 1)), ("one", (("call", "a", 9, 3), ("call", "b", 16, 3))), 20, 2),
                (((1, 20), (10, 1)), ("one", (("call", "a", 9, 3), ("call", "b", 16, 3))), None, 2),
                (((1, 20), (10, 1), (30, 1)), ("all", (("call", "a", 9, 3), ("call", "b", 31, 1))), 30, 2)):
            with self.subTest(pile=pile, right=right):
                told_worth, run = stumped(pile, right)
                self.assertEqual((told_worth, len(run)), (worth, count))
                self.check(pile, right)

    def test_sixty_calls_and_one_more(self):
        for pile, right, expected in (
                (((1, 59), (2, 1)), ("call", "a", 1, 60), (2, [("a", 1)] * 60)),
                (((1, 60), (2, 1)), ("call", "a", 1, 60), None),
                (((1, 60), (2, 1)), ("call", "a", 1, 61), (TooGreat, {})),
                (((1, 60),), ("call", "a", 1, MANY), (TooGreat, {})),
                (((1, 60), (2, 1)), ("call", "a", 2, MANY), (None, [("a", 2)] * 32)),
                (((1, 120), (2, 99)), ("call", "a", 2, MANY), (TooGreat, {})),
                (((1, 119), (3, 99)), ("call", "a", 2, MANY), (3, [("a", 2)] * 60)),
                (((1, 120), (3, 99)), ("call", "a", 2, MANY), (TooGreat, {})),
                # One call stumps the whole, where the worth 2 needs ten thousand.
                (((1, 9999), (2, 1)), ("one", (("call", "a", 1, MANY), ("call", "b", MANY, 1))),
                 (None, [("b", MANY)]))):
            with self.subTest(pile=pile, right=right):
                answer = told(stumped, pile, right)
                if expected is not None and isinstance(expected[1], list):
                    self.assertEqual((answer[0], len(answer[1])), (expected[0], len(expected[1])))
                    self.assertIs(judge_stump(pile, right, expected), True)
                    self.assertIs(judge_stump(pile, right, answer), True)
                else:
                    self.assertEqual(answer, expected)


class TestJudgeStump(unittest.TestCase):
    def test_good_ones_that_are_not_fewest_or_least(self):
        right = ("all", (("call", "a", 5, 4), ("call", "b", 1, 61)))
        pile = ((1, 3), (2, 1), (5, 1))
        for thing in (
                (2, [("b", 1)] * 4), (2, [("a", 1), ("b", 1)] * 4), (5, [("a", 4), ("a", 2)]), (5, [("a", 3)] * 2),
                (5, [("a", 4), ("a", 4), ("a", 4)]), (5, [("b", 1)] * 6), (5, [("a", 4), ("b", 1), ("a", 1)]),
                (None, [("a", 5), ("a", 5), ("a", 1)]), (None, [("a", 5)] * 4), (None, [("b", 1)] * 61)):
            with self.subTest(thing=thing):
                answers = told_each_way(judge_stump, (pile, right, thing), ("pile", "right", "thing"))
                self.assertEqual(answers, [True] * 4)
                self.assertIs(judge_stump(pile, right, thing), True)

    def test_what_is_no_such_tuple(self):
        right = ("all", (("call", "a", 5, 4), ("call", "b", 1, 61)))
        pile = ((1, 3), (2, 1), (5, 1))
        good = [("a", 4), ("a", 2)]
        for thing in (
                (2, [("b", 1)] * 3), (2, [("a", 2)] * 2), (2, [("a", 2), ("b", 1), ("b", 1)]),
                (5, [("a", 4), ("a", 1)]),
                (5, [("a", 5)] * 2), (5, [("a", 5), ("a", 4)]), (None, [("a", 5)] * 2), (None, []), (5, []), (1, []),
                (1, [("b", 1)] * 61), (2, []), (3, good), (4, good), (6, good), (0, good), (-5, good), (MANY, good),
                (None, [("a", 5)] * 5), (5, [("a", 4)] * 5), (None, [("a", 6)] * 2), (5, [("c", 4)] * 2),
                (5, [("a", 4), ("a", 0), ("a", 2)]), (5, tuple(good)), [5, good], (5, good, 1),
                (5,), (good, 5), (good,), good, (5, good[0]), (5, [good]), ((5, good),), (5, None), (None, None),
                (5, 5),
                ("5", good), (True, good), (False, good), (True, []), ([5], good), ((5,), good), (None, good),
                (nested(100000), good), (nested(100000, list), good), (5, nested(100000)), (5, nested(100000, list)),
                (5, [nested(100000)]), (5, [("a", 4), nested(100000, list)])):
            self.assertIs(told(judge_stump, pile, right, thing), False)
        for thing in (None, True, False, 0, 1, "", "ab", (), [], nested(100000), nested(100000, list)) + NO_LISTS:
            self.assertIs(told(judge_stump, pile, right, thing), False)
            self.assertIs(told(judge_stump, pile, right, (5, thing)), False)
        for thing in NO_CALLS:
            self.assertIs(told(judge_stump, pile, right, (5, good + [thing])), False)
            self.assertIs(told(judge_stump, pile, right, (5, [thing])), False)
        for thing in NO_NUMBERS:
            if thing is not None:
                self.assertIs(told(judge_stump, pile, right, (thing, good)), False)

    def test_nothing_is_such_a_tuple_where_the_till_serves_the_right(self):
        for pile, right in itertools.product(SMALL_PILES[::3], SMALL[::13]):
            for run in runs_of_calls(right, 3)[:60]:
                for worth in [None] + [worth for worth, _ in pile]:
                    judged = judge_stump(pile, right, (worth, run))
                    self.assertIs(judged, worth in stump_worths(pile, run))
                    self.assertFalse(judged and serves(pile, right))
            self.assertIs(judge_stump(pile, right, None), False)

    def test_the_run_is_to_be_one_of_the_right(self):
        self.assertIs(judge_stump((), ("one", (A, B)), (None, [("a", 5)])), True)
        self.assertIs(judge_stump((), ("one", (A, B)), (None, [("a", 5), ("b", 1)])), False)
        self.assertIs(judge_stump((), ("within", 7, A), (None, [("a", 5), ("a", 2)])), True)
        self.assertIs(judge_stump((), ("within", 7, A), (None, [("a", 5), ("a", 3)])), False)
        self.assertIs(judge_stump((), ("calls", 1, A), (None, [("a", 1), ("a", 1)])), False)
        self.assertIs(judge_stump((), NONE, (None, [("a", 1)])), False)


class TestRefusals(unittest.TestCase):
    def test_what_is_first_wrong_is_told(self):
        few = NO_PILES[:3] + NO_PILES[-3:]
        rights = NO_RIGHTS[::4] + NO_RIGHTS[:3]
        for bads in ((few, rights), (NO_PILES[::4], NO_RIGHTS[:2]), (NO_PILES, ()), ((), NO_RIGHTS)):
            for row, place in one_or_more_wrong((PILE, A), bads):
                expected = ((NoPile, NoRight)[place], {})
                for asked, words, more in ((serves, ("pile", "right"), ()), (stumped, ("pile", "right"), ()),
                                           (judge_stump, ("pile", "right", "thing"), ((None, [("a", 5)] * 4),)),
                                           (judge_stump, ("pile", "right", "thing"), (None,))):
                    answers = told_each_way(asked, row + more, words)
                    self.assertEqual(answers, [expected] * (len(words) + 1))

    def test_what_is_no_such_thing_is_told_ahead_of_too_great(self):
        right = ("call", "a", 1, MANY)
        self.assertEqual(told(stumped, ((1, 60),), right), (TooGreat, {}))
        self.assertEqual(told(stumped, ((1, 60), (1, 1)), right), (NoPile, {}))
        self.assertEqual(told(stumped, ((1, 60),), right[:3]), (NoRight, {}))
        self.assertEqual(told(stumped, ((1, 60),), ("all", (right, right))), (NoRight, {}))


class TestAnswersAreTheAskers(unittest.TestCase):
    def test_a_changed_run_changes_no_later_answer(self):
        first, second = stumped((), A), stumped((), A)
        self.assertIsNot(first[1], second[1])
        first[1].clear()
        self.assertEqual(second, (None, [("a", 5)]))
        self.assertEqual(stumped((), A), second)

    def test_what_is_handed_in_may_be_changed_behind_the_call(self):
        run = [("a", 5)]
        self.assertIs(judge_stump((), A, (None, run)), True)
        run.append(("a", 6))
        self.assertIs(judge_stump((), A, (None, run)), False)


class TestSoon(unittest.TestCase):
    def test_great_tills_and_rights_are_told_of_soon(self):
        piles = (tuple((5 ** power, 5) for power in range(12)), tuple((5 ** power, MANY) for power in range(12)))
        three = ("all", tuple(("call", name, 10 ** 9 + at, 60) for at, name in enumerate("abc")))
        choices = ("all", tuple(("one", tuple(("call", "abcdefghijkl"[at + way], 10 ** (9 - way), 20 ** way)
                                              for way in range(3))) for at in (0, 3, 6, 9)))
        for pile, right in itertools.product(piles, (three, choices, ("calls", 59, choices))):
            with self.subTest(pile=pile, names=names_in(right)):
                self.assertLess(seconds(lambda: serves(pile, right), 3), seconds(count_up, 3))
                self.assertLess(seconds(lambda: told(stumped, pile, right), 3), 2 * seconds(count_up, 3))


if __name__ == "__main__":
    unittest.main()
