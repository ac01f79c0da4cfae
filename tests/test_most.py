"""Points [10] and [11], and what [2], [3] and [4] say of what may be called for most."""

import itertools
import unittest

from blindtill.errors import NoNumber, NoRight, TooGreat
from blindtill.most import longest, most, most_run
from blindtill.rights import after, behind, is_right, may, names
from runs import (
    NONE, all_runs, any_rights, longest_by_runs, most_by_runs, most_by_tables, mosts_in, next_calls,
    rights_of_two_forms, times_in)
from things import (
    A, B, C, NO_NUMBERS, NO_NUMBERS_FROM_1, NO_RIGHTS, count_up, one_or_more_wrong, seconds, told, told_each_way)

MANY = 10 ** 12
TWELVE = "abcdefghijkl"

SMALL = [right for right in rights_of_two_forms() + any_rights(1, 300, "abc", 4, 2) if times_in(right) <= 8]
GREAT = (any_rights(2, 60, TWELVE, 9, 3) + any_rights(3, 60, TWELVE, 10 ** 9, 9) + any_rights(4, 60, TWELVE, MANY, 9)
         + any_rights(5, 20, "abc", 10 ** 9, 60) + any_rights(6, 20, "abc", 30, 60))

SIXTY_TIMES = [
    around for first, second, third in ((5, 5, 5), (9, 4, 1), (10 ** 9, 10 ** 9 + 7, 3), (MANY, 10 ** 9, MANY - 1))
    for right in (
        ("all", (("call", "a", first, 60), ("call", "b", second, 59))),
        ("one", (("call", "a", first, 20), ("call", "b", second, 60))),
        ("all", (("call", "a", first, 60), ("one", (("call", "b", second, 17), ("call", "c", third, 60))))),
        ("one", (("call", "a", first, 7), ("all", (("call", "b", second, 60), ("call", "c", third, 60))))),
        ("all", (("call", "c", third, 60), ("call", "b", second, 60), ("call", "a", first, 60))))
    for around in (right, ("within", 31 * first + 2, right), ("calls", 45, right),
                   ("calls", 70, ("within", 40 * second, right)))]

# Which right of a "one" is the greatest goes by how many calls there are: 9 of one, 12 of two, 15 of three or more.
TURNS = ("one", (("call", "a", 9, 1), ("call", "b", 6, 2), ("call", "c", 5, 3)))
OTHER_TURNS = ("one", (("call", "d", 20, 1), ("call", "e", 11, 2), ("call", "f", 1, 60)))


def bounds_of(right):
    """Each below and each calls to ask of a right: the edges, and some between."""
    greatest = max(mosts_in(right), default=1)
    count = longest(right)
    belows = [None] + sorted({1, 2, 3, (greatest + 1) // 2 + 1, greatest, greatest + 1, greatest + 2})
    return belows, [None] + sorted({0, 1, 2, count // 2, count, count + 1, MANY, 10 ** 30})


class TestMost(unittest.TestCase):
    def test_each_form(self):
        for right, below, calls, expected in (
                (NONE, None, None, 0), (NONE, 5, 5, 0), (A, None, None, 10), (A, 5, None, 8), (A, 6, None, 10),
                (A, 1, None, 0), (A, 2, None, 2), (A, None, 0, 0), (A, None, 1, 5), (A, None, 2, 10), (A, None, 3, 10),
                (A, 3, 1, 2), (A, MANY, MANY, 10), (("all", ()), None, None, 0), (("all", (A, B)), None, None, 13),
                (("all", (A, B)), None, 1, 5), (("all", (B, A)), None, 2, 10), (("all", (B, A)), 4, 2, 6),
                (("all", (A, B, C)), None, 4, 18), (("all", (A, B, C)), None, 5, 22), (("all", (A, B, C)), 5, 1, 4),
                (("one", ()), None, None, 0), (("one", (A, B)), None, None, 10), (("one", (A, B, C)), None, None, 12),
                (("one", (A, B, C)), None, 1, 5), (("one", (A, B, C)), None, 2, 10), (("one", (A, B, C)), 4, 2, 6),
                (("within", 7, A), None, None, 7), (("within", 7, A), None, 1, 5), (("within", 3, A), None, 1, 3),
                (("within", 7, A), 4, None, 6), (("within", 11, A), None, None, 10), (("within", 7, NONE), 3, 3, 0),
                (("calls", 1, A), None, None, 5), (("calls", 2, A), None, None, 10), (("calls", 3, A), None, None, 10),
                (("calls", 2, A), 3, 1, 2), (("calls", 2, ("all", (B, C))), None, None, 8),
                (("calls", 4, NONE), None, 4, 0)):
            with self.subTest(right=right, below=below, calls=calls):
                self.assertEqual(told_each_way(most, (right,), ("right",), below=below, calls=calls), [expected] * 2)

    def test_what_is_left_out_is_no_bound(self):
        right = ("all", (A, ("calls", 2, C)))
        self.assertEqual(most(right), 18)
        self.assertEqual(most(right, below=None), 18)
        self.assertEqual(most(right, calls=None), 18)
        self.assertEqual(most(right, below=5), 16)
        self.assertEqual(most(right, calls=3), 14)

    def test_bounds_are_told_by_their_names_alone(self):
        for asked in (most, most_run):
            for places in ((A, 5), (A, 5, 2), (A, None)):
                with self.assertRaises(TypeError):
                    asked(*places)

    def test_calls_are_shared_out_among_all(self):
        for calls, expected in enumerate((0, 9, 12, 15, 15)):
            self.assertEqual(most(TURNS, calls=calls), expected)
        both = ("all", (TURNS, OTHER_TURNS))
        # 0 calls; 20; 20 + 9; 20 + 12 or 22 + 9; 20 + 15; 22 + 15; and from 19 calls on 60 of f are no better yet.
        for calls, expected in ((0, 0), (1, 20), (2, 29), (3, 32), (4, 35), (5, 37), (6, 37), (25, 37), (26, 38),
                                (62, 74), (63, 75), (64, 75), (None, 75)):
            with self.subTest(calls=calls):
                self.assertEqual(most(both, calls=calls), expected)
                self.assertEqual(most(("calls", 63, both), calls=calls), expected)
        for calls in range(1, 70):
            table = most_by_tables(both, None, calls)
            self.assertEqual(most(("calls", calls, both)), table[-1])
            self.assertEqual(most(("within", 30, ("calls", calls, both))), min(30, table[-1]))

    def test_within_inside_calls_and_calls_inside_within(self):
        tight = ("within", 7, ("call", "a", 5, 9))
        for calls, expected in ((0, 0), (1, 5), (2, 7), (3, 7)):
            self.assertEqual(most(tight, calls=calls), expected)
        # What a within cuts off a call may be made by another one.
        right = ("calls", 3, ("all", (tight, ("call", "b", 4, 9))))
        for below, expected in ((None, 13), (6, 13), (5, 12), (4, 9), (3, 6), (2, 3), (1, 0)):
            self.assertEqual(most(right, below=below), expected)
        self.assertEqual(most(("within", 12, right)), 12)
        self.assertEqual(most(("within", 14, right)), 13)

    def test_small_rights_against_all_their_runs(self):
        for right in SMALL[::3]:
            belows, counts = bounds_of(right)
            for below, calls in itertools.product(belows, counts):
                expected = most_by_runs(right, below, None if calls is None else min(calls, times_in(right)))
                with self.subTest(right=right, below=below, calls=calls):
                    self.assertEqual(most(right, below=below, calls=calls), expected)

    def test_small_rights_against_runs_told_of_at_once(self):
        for right in SMALL[::4]:
            for calls, amounts in ((2, (1, 2, 3, 4, 5)), (3, (1, 2, 4))):
                for below in (2, 3, 6):
                    lesser = [amount for amount in amounts if amount < below]
                    greatest = max(sum(amount for _, amount in run) for run in all_runs(right, calls, lesser))
                    if calls == 2:
                        self.assertEqual(most(right, below=below, calls=calls), greatest)
                    self.assertGreaterEqual(most(right, below=below, calls=calls), greatest)

    def test_great_rights_against_tables(self):
        for right in GREAT + SIXTY_TIMES:
            for below in bounds_of(right)[0]:
                table = most_by_tables(right, below, times_in(right))
                self.assertEqual(most(right, below=below), table[-1])
                self.assertEqual([most(right, below=below, calls=calls) for calls in range(len(table))], table)

    def test_great_mosts(self):
        for greatest in (10 ** 9, 10 ** 9 + 1, MANY - 1, MANY, 10 ** 30):
            right = ("all", (("call", "a", greatest, 60), ("within", 2 * greatest + 1, ("call", "b", greatest, 60))))
            for below, calls, expected in (
                    (None, None, 62 * greatest + 1), (greatest + 1, None, 62 * greatest + 1), (2, None, 120),
                    (greatest, None, 62 * greatest - 59), (None, 62, 62 * greatest), (None, 63, 62 * greatest + 1),
                    (None, 1, greatest), (greatest, 1, greatest - 1), (greatest, 64, 62 * greatest - 59)):
                with self.subTest(greatest=greatest, below=below, calls=calls):
                    self.assertEqual(most(right, below=below, calls=calls), expected)

    def test_most_never_falls_as_its_bounds_rise(self):
        for right in SMALL[::3] + GREAT[::5]:
            belows, counts = bounds_of(right)
            for calls in counts:
                row = [most(right, below=below, calls=calls) for below in belows[1:] + belows[:1]]
                self.assertEqual(row, sorted(row))
            for below in belows:
                row = [most(right, below=below, calls=calls) for calls in counts[1:] + counts[:1]]
                self.assertEqual(row, sorted(row))

    def test_what_is_told_may_be_handed_in_again(self):
        right = ("call", "a", 10 ** 30, 10 ** 30)
        self.assertEqual(most(right), 10 ** 60)
        self.assertEqual(most(right, below=most(right), calls=longest(right)), 10 ** 60)
        self.assertEqual(most(right, calls=10 ** 60), 10 ** 60)
        self.assertEqual(most(right, calls=1000), 1000 * 10 ** 30)
        self.assertEqual(most(("calls", 10 ** 29, ("all", (B, right)))), 10 ** 59)


class TestLongest(unittest.TestCase):
    def test_longest_in_each_form(self):
        for right, expected in (
                (NONE, 0), (A, 2), (("call", "a", MANY, MANY), MANY), (("all", ()), 0), (("all", (A, B, C)), 6),
                (("one", ()), 0), (("one", (A, B, C)), 3), (("within", 1, A), 1), (("within", 2, A), 2),
                (("within", 3, A), 2), (("within", 3, NONE), 0), (("calls", 1, A), 1), (("calls", 2, A), 2),
                (("calls", 3, A), 2), (("calls", 3, NONE), 0), (("all", (("calls", 1, A), ("within", 2, C))), 3),
                (("one", (("all", (A, B)), ("within", 9, C))), 3), (("call", "a", 1, 10 ** 30), 10 ** 30)):
            with self.subTest(right=right):
                self.assertEqual(told_each_way(longest, (right,), ("right",)), [expected] * 2)

    def test_the_longest_run_is_one_of_calls_of_1(self):
        for right in SMALL:
            self.assertEqual(longest(right), longest_by_runs(right))
        for right in SMALL + GREAT:
            self.assertEqual(longest(right), most(right, below=2))

    def test_calls_from_longest_on_are_no_bound(self):
        for right in SMALL + GREAT:
            for below in (None, 2, 5):
                expected = most(right, below=below)
                for calls in (longest(right), longest(right) + 1, 10 ** 30):
                    self.assertEqual(most(right, below=below, calls=calls), expected)


class TestMostRun(unittest.TestCase):
    def check(self, right, below, calls):
        """Ask for a run, and look whether it is one such, or is refused as it is to be."""
        answer = told(most_run, right, below=below, calls=calls)
        expected = most(right, below=below, calls=calls)
        few = 60 if calls is None else min(calls, 60)
        with self.subTest(right=right, below=below, calls=calls):
            if most(right, below=below, calls=few) < expected:
                self.assertEqual(answer, (TooGreat, {}))
            else:
                self.assertIs(type(answer), list)
                self.assertIs(is_right(after(right, answer)), True)
                self.assertEqual(sum(amount for _, amount in answer), expected)
                self.assertLessEqual(len(answer), few)
                self.assertTrue(below is None or all(amount < below for _, amount in answer))

    def test_runs_of_small_and_great_rights(self):
        for right in SMALL[::7] + GREAT + SIXTY_TIMES:
            belows, counts = bounds_of(right)
            for below, calls in itertools.product(belows, counts + [59, 60, 61]):
                self.check(right, below, calls)

    def test_runs_that_are_the_only_ones(self):
        for right, below, calls, expected in (
                (NONE, None, None, []), (A, None, None, [("a", 5)] * 2), (A, 3, None, [("a", 2)] * 2), (A, 1, None, []),
                (A, None, 0, []), (B, None, None, [("b", 3)]), (TURNS, None, 1, [("a", 9)]),
                (TURNS, None, 2, [("b", 6)] * 2), (TURNS, None, None, [("c", 5)] * 3), (TURNS, 6, 1, [("c", 5)]),
                (("within", 4, A), None, 1, [("a", 4)]), (("calls", 1, ("one", (B, A))), None, None, [("a", 5)])):
            with self.subTest(right=right, below=below, calls=calls):
                answers = told_each_way(most_run, (right,), ("right",), below=below, calls=calls)
                if right == TURNS and below == 6:
                    self.assertIn(answers[0], ([("b", 5)], [("c", 5)]))
                else:
                    self.assertEqual(answers, [expected] * 2)

    def test_sixty_calls_and_one_more(self):
        for times, others, expected in ((60, 0, 60), (59, 1, 60), (60, 1, None), (30, 30, 60), (31, 30, None)):
            right = ("all", (("call", "a", 7, times),) + ((("call", "b", 9, others),) if others else ()))
            for below in (None, 2, 8):
                answer = told(most_run, right, below=below)
                self.assertEqual(len(answer) if expected else answer, expected or (TooGreat, {}))
            self.check(right, None, 60)
            self.check(right, None, 61)
        # A run of few calls that is as great as the longest ones is told.
        right = ("within", 120, ("call", "a", 3, MANY))
        self.assertEqual(told(most_run, right), [("a", 3)] * 40)
        self.assertEqual(told(most_run, right, below=3), [("a", 2)] * 60)
        self.assertEqual(told(most_run, right, below=2), (TooGreat, {}))
        self.assertEqual(told(most_run, right, below=2, calls=60), [("a", 1)] * 60)
        self.assertEqual(told(most_run, right, below=2, calls=61), (TooGreat, {}))
        self.assertEqual(told(most_run, right, below=1), [])
        right = ("one", (("call", "a", 1, 61), ("call", "b", 61, 1)))
        self.assertEqual(told(most_run, right), [("b", 61)])
        self.assertEqual(told(most_run, right, below=61), (TooGreat, {}))

    def test_each_next_call_and_most_behind_it(self):
        for right in SMALL[1::4]:
            for below, calls in itertools.product((None, 2, 3, 5), (None, 1, 2, 3, 9)):
                greatest = most(right, below=below, calls=calls)
                fewer = None if calls is None else calls - 1
                reached = set()
                for name, amount in next_calls(right):
                    lesser = amount if below is None else min(amount, below - 1)
                    total = lesser + most(behind(right, name, amount), below=below, calls=fewer)
                    self.assertLessEqual(total, greatest)
                for name in names(right):
                    if may(right, name) > 0:
                        amount = may(right, name) if below is None else min(may(right, name), below - 1)
                        reached.add(amount + most(behind(right, name, amount), below=below, calls=fewer))
                self.assertTrue(greatest == 0 or greatest in reached)


class TestRefusals(unittest.TestCase):
    def test_what_is_first_wrong_is_told(self):
        for thing in NO_RIGHTS:
            self.assertEqual(told_each_way(longest, (thing,), ("right",)), [(NoRight, {})] * 2)
        for asked in (most, most_run):
            for (right, below, calls), place in one_or_more_wrong(
                    (A, 3, 2), (NO_RIGHTS[::9] + NO_RIGHTS[:3], NO_NUMBERS_FROM_1[1:], NO_NUMBERS[1:])):
                answers = told_each_way(asked, (right,), ("right",), below=below, calls=calls)
                self.assertEqual(answers, [((NoNumber if place else NoRight), {})] * 2)
            for thing in NO_RIGHTS:
                self.assertEqual(told_each_way(asked, (thing,), ("right",)), [(NoRight, {})] * 2)
                self.assertEqual(told(asked, thing, below=0, calls=-1), (NoRight, {}))

    def test_numbers_at_their_edges(self):
        for asked, none in ((most, 0), (most_run, [])):
            self.assertEqual(told(asked, A, below=0), (NoNumber, {}))
            self.assertEqual(told(asked, A, below=1), none)
            self.assertEqual(told(asked, A, calls=-1), (NoNumber, {}))
            self.assertEqual(told(asked, A, calls=0), none)
            self.assertEqual(told(asked, NONE, below=True), (NoNumber, {}))
            self.assertEqual(told(asked, NONE, calls=False), (NoNumber, {}))

    def test_no_number_is_told_ahead_of_too_great(self):
        right = ("call", "a", 5, 61)
        self.assertEqual(told(most_run, right), (TooGreat, {}))
        self.assertEqual(told(most_run, right, below=0), (NoNumber, {}))
        self.assertEqual(told(most_run, right, calls=True), (NoNumber, {}))


class TestAnswersAreTheAskers(unittest.TestCase):
    def test_a_changed_run_changes_no_later_answer(self):
        first, second = most_run(A), most_run(A)
        self.assertIsNot(first, second)
        first.clear()
        self.assertEqual(second, [("a", 5)] * 2)
        self.assertEqual(most_run(A), second)
        most_run(NONE).append(("a", 1))
        self.assertEqual(most_run(NONE), [])


class TestSoon(unittest.TestCase):
    def test_great_rights_are_told_of_soon(self):
        three = ("all", tuple(("call", name, 10 ** 9 + at, 60) for at, name in enumerate("abc")))
        twelve = ("all", tuple(("call", name, MANY - at, 60) for at, name in enumerate(TWELVE)))
        # Here each of the rights in each "one" is the greatest for some count of calls: 81 ways to choose.
        choices = ("all", tuple(("one", tuple(("call", TWELVE[at + way], 10 ** (9 - way), 20 ** way)
                                              for way in range(3))) for at in (0, 3, 6, 9)))
        endless = ("calls", 1000, ("all", tuple(("call", name, MANY - at, MANY) for at, name in enumerate(TWELVE))))
        for right in (three, twelve, choices, endless, ("calls", 59, choices), ("within", MANY, ("calls", 59, choices)),
                      ("within", 10 ** 10, ("calls", 170, three))):
            for below, calls in itertools.product((None, 2, 10 ** 8, 10 ** 9), (None, 30, 60, 171)):
                # Each is told in a small part of what a plain loop of 100000 takes; here it may take the half of it.
                with self.subTest(right=right, below=below, calls=calls):
                    self.assertLess(seconds(lambda: most(right, below=below, calls=calls), 3), seconds(count_up, 3) / 2)
                    self.assertLess(seconds(lambda: told(most_run, right, below=below, calls=calls), 3),
                                    seconds(count_up, 3))


if __name__ == "__main__":
    unittest.main()
