"""Points [7], [8] and [9], and what [2], [3] and [4] say of rights."""

import itertools
import unittest

from blindtill.errors import NoCall, NoName, NoNumber, NoRight
from blindtill.rights import after, behind, is_right, lapse, may, names, trimmed
from runs import all_runs, is_run, one_form_around, parts_of, rights_of_two_forms
from things import (
    A, B, C, NO_CALLS, NO_LISTS, NO_NAMES, NO_NUMBERS_FROM_1, NO_RIGHTS, SOME_NO_RIGHTS, nested, one_or_more_wrong,
    told, told_each_way, within)

MANY = 10 ** 12
NONE = ("none",)
FEWER_A = ("call", "a", 5, 1)
FEWER_C = ("call", "c", 4, 2)
FEWEST_C = ("call", "c", 4, 1)
NO_CALL = (NoCall, {"place": None})


def broken_at(place):
    return (NoCall, {"place": place})


def is_trim(right):
    """Whether there is nothing in a right to trim."""
    parts = parts_of(right)
    if right[0] in ("all", "one") and (len(parts) < 2 or right[0] in [part[0] for part in parts]):
        return False
    return NONE not in parts and all(is_trim(part) for part in parts)


class TestIsRight(unittest.TestCase):
    def test_each_form(self):
        for right in (NONE, A, ("call", "abcdefgh", MANY, MANY), ("call", "z", 10 ** 30, 10 ** 30), ("all", ()),
                      ("all", (A,)), ("all", (A, B, C)), ("one", ()), ("one", (A,)), ("one", (C, B, A)),
                      ("within", 1, A), ("within", MANY, NONE), ("calls", 1, A), ("calls", 10 ** 30, NONE),
                      ("all", (NONE, NONE)), ("one", (NONE, NONE, ("all", ()), ("all", ()))),
                      ("call", "az", 1, 1), ("call", "none", 1, 1), ("call", "call", 1, 1)):
            with self.subTest(right=right):
                self.assertIs(told(is_right, right), True)
                self.assertIs(is_right(thing=right), True)

    def test_each_form_within_each_other(self):
        for right in rights_of_two_forms():
            self.assertIs(is_right(right), True)

    def test_no_rights(self):
        for at, thing in enumerate(NO_RIGHTS):
            with self.subTest(at=at):
                self.assertIs(told(is_right, thing), False)

    def test_what_is_no_right_is_none_within_a_form(self):
        for thing in SOME_NO_RIGHTS:
            for right in one_form_around(thing, B):
                for outer in [right] + one_form_around(right, C):
                    with self.subTest(right=outer):
                        self.assertIs(is_right(outer), False)

    def test_names(self):
        for name in ("a", "z", "az", "abcdefgh", "zzzzzzzz", "aaaaaaaa"):
            self.assertIs(is_right(("call", name, 1, 1)), True)
        for name in NO_NAMES:
            self.assertIs(is_right(("call", name, 1, 1)), False)

    def test_six_deep_and_seven_deep(self):
        for lowest in (NONE, A, ("all", ()), ("one", ())):
            self.assertIs(is_right(within(5, lowest)), True)
            self.assertIs(is_right(within(6, lowest)), False)
            for form in ("all", "one"):
                deep = lowest
                for depth in range(2, 10):
                    deep = (form, (B, deep)) if depth == 6 else (form, (deep,))
                    with self.subTest(form=form, depth=depth):
                        self.assertIs(is_right(deep), depth <= 6)

    def test_what_is_deepest_counts(self):
        self.assertIs(is_right(("all", (B, within(4, A), C))), True)
        self.assertIs(is_right(("all", (B, within(5, A), C))), False)
        self.assertIs(is_right(("one", (within(4, A), within(4, B), C))), True)
        self.assertIs(is_right(("one", (within(4, A), within(5, B), C))), False)

    def test_many_calls_and_parts_are_no_fault(self):
        letters = "abcdefghijklmnopqrstuvwxyz"
        many = [first + second for first in letters for second in letters]
        for form in ("all", "one"):
            right = (form, tuple(("call", name, 1, 1) for name in many))
            self.assertIs(is_right(right), True)
            self.assertEqual(names(right), many)
            self.assertIs(is_right((form, right[1] + (("call", "aa", 1, 1),))), False)
            self.assertIs(is_right((form, right[1] + (NONE,) * 1000)), True)


class TestNamesAndMay(unittest.TestCase):
    def test_names_as_they_stand(self):
        for right, expected in (
                (NONE, []), (A, ["a"]), (("all", (C, A, B)), ["c", "a", "b"]), (("one", ()), []),
                (("one", (B, NONE, ("all", (C, ("within", 3, A))))), ["b", "c", "a"]),
                (("calls", 2, ("all", (("one", (C, ("call", "zz", 1, 1))), A))), ["c", "zz", "a"])):
            with self.subTest(right=right):
                self.assertEqual(told_each_way(names, (right,), ("right",)), [expected] * 2)

    def test_may(self):
        right = ("all", (("within", 4, ("one", (A, ("within", 2, B)))), ("calls", 1, C), ("within", 9, NONE),
                         ("within", 3, ("calls", 5, ("within", 7, ("call", "d", 6, 1))))))
        for name, expected in (("a", 4), ("b", 2), ("c", 4), ("d", 3), ("e", 0), ("aa", 0), ("abcdefgh", 0)):
            with self.subTest(name=name):
                self.assertEqual(told_each_way(may, (right, name), ("right", "name")), [expected] * 3)

    def test_may_is_the_least_of_what_is_around(self):
        for most, inner, outer in itertools.product((1, 2, 3, MANY, 10 ** 30), repeat=3):
            right = ("within", outer, ("calls", 1, ("one", (("within", inner, ("call", "a", most, 1)), B))))
            self.assertEqual(may(right, "a"), min(most, inner, outer))
            self.assertEqual(may(right, "b"), min(3, outer))

    def test_may_of_nothing(self):
        for right in (NONE, ("all", ()), ("one", ()), ("within", 3, NONE), ("calls", 3, ("all", ()))):
            self.assertEqual(may(right, "a"), 0)


class TestBehind(unittest.TestCase):
    def test_behind_in_each_form(self):
        for right, name, amount, expected in (
                (A, "a", 5, FEWER_A), (A, "a", 1, FEWER_A), (FEWER_A, "a", 3, NONE), (B, "b", 1, NONE),
                (("all", (A, B)), "a", 2, ("all", (FEWER_A, B))), (("all", (A, B)), "b", 2, A),
                (("all", (A, B, C)), "b", 3, ("all", (A, C))), (("all", (B,)), "b", 1, NONE),
                (("one", (A, B)), "a", 2, FEWER_A), (("one", (A, B)), "b", 3, NONE),
                (("one", (NONE, A)), "a", 1, FEWER_A),
                (("one", (C, ("all", (A, B)))), "a", 5, ("all", (FEWER_A, B))),
                (("within", 5, A), "a", 2, ("within", 3, FEWER_A)), (("within", 5, A), "a", 5, NONE),
                (("within", 3, A), "a", 3, NONE), (("within", 9, B), "b", 3, NONE),
                (("calls", 3, A), "a", 2, ("calls", 2, FEWER_A)), (("calls", 1, A), "a", 1, NONE),
                (("calls", 9, B), "b", 3, NONE), (("call", "a", MANY, MANY), "a", MANY, ("call", "a", MANY, MANY - 1)),
                (("within", 10 ** 30, ("call", "a", 10 ** 30, 2)), "a", 10 ** 29,
                 ("within", 9 * 10 ** 29, ("call", "a", 10 ** 30, 1)))):
            with self.subTest(right=right, name=name, amount=amount):
                answers = told_each_way(behind, (right, name, amount), ("right", "name", "amount"))
                self.assertEqual(answers, [expected] * 4)

    def test_behind_in_forms_within_forms(self):
        for right, name, amount, expected in (
                (("within", 7, ("within", 4, A)), "a", 3, ("within", 4, ("within", 1, FEWER_A))),
                (("within", 7, ("within", 4, A)), "a", 4, NONE),
                (("within", 4, ("within", 7, A)), "a", 4, NONE),
                (("within", 7, ("all", (("within", 4, A), B))), "a", 4, ("within", 3, B)),
                (("within", 7, ("calls", 2, A)), "a", 3, ("within", 4, ("calls", 1, FEWER_A))),
                (("calls", 2, ("within", 7, A)), "a", 3, ("calls", 1, ("within", 4, FEWER_A))),
                (("calls", 1, ("within", 7, A)), "a", 3, NONE),
                (("calls", 3, ("calls", 1, A)), "a", 3, NONE),
                (("calls", 3, ("all", (("calls", 1, A), C))), "a", 3, ("calls", 2, C)),
                (("all", (("calls", 3, B), ("within", 9, A))), "a", 2,
                 ("all", (("calls", 3, B), ("within", 7, FEWER_A)))),
                (("one", (("one", (A, B)), C)), "a", 2, FEWER_A), (("one", (("one", (A, B)), C)), "c", 2, FEWER_C),
                (("all", (("one", (A, B)), C)), "a", 2, ("all", (FEWER_A, C))),
                (("all", (("one", (A, B)), C)), "c", 2, ("all", (("one", (A, B)), FEWER_C))),
                (("one", (("all", (A, B)), C)), "b", 2, A),
                (("all", (C, ("one", (B, ("all", (A, ("call", "d", 2, 1))))))), "a", 2,
                 ("all", (C, FEWER_A, ("call", "d", 2, 1)))),
                (("one", (B, ("all", (("one", (A, ("call", "d", 2, 1))), ("call", "e", 1, 1))))), "e", 1,
                 ("one", (A, ("call", "d", 2, 1)))),
                (("all", (("one", (("all", (A, B)), C)), ("call", "d", 2, 1))), "d", 1,
                 ("one", (("all", (A, B)), C))),
                (("within", 9, ("one", (("calls", 2, ("all", (A, B))), C))), "b", 3,
                 ("within", 6, ("calls", 1, A)))):
            with self.subTest(right=right, name=name, amount=amount):
                self.assertEqual(told(behind, right, name, amount), expected)

    def test_behind_of_what_is_not_trimmed(self):
        for right, name, amount, expected in (
                (("all", (A, NONE)), "a", 1, FEWER_A),
                (("all", (("all", (A, B)), C)), "a", 1, ("all", (FEWER_A, B, C))),
                (("all", (A, ("within", 3, ("all", ())))), "a", 1, FEWER_A),
                (("one", (NONE, ("one", (A,)))), "a", 2, FEWER_A),
                (("all", (C, ("one", (("all", (B,)),)))), "c", 4, ("all", (FEWER_C, B))),
                (("calls", 4, ("all", (B, ("calls", 2, ("one", ()))))), "b", 1, NONE)):
            with self.subTest(right=right, name=name, amount=amount):
                self.assertEqual(told(behind, right, name, amount), expected)

    def test_the_greatest_amount_and_one_more(self):
        for right in rights_of_two_forms():
            for name in ("a", "b", "c", "d", "e"):
                greatest = may(right, name)
                for amount in (1, max(1, greatest), greatest + 1, greatest + 2, MANY):
                    answer = told(behind, right, name, amount)
                    with self.subTest(right=right, name=name, amount=amount):
                        if amount > greatest:
                            self.assertEqual(answer, NO_CALL)
                        else:
                            self.assertIs(is_right(answer), True)

    def test_a_name_of_no_call(self):
        for right in (NONE, A, ("all", (A, B)), ("one", ()), ("within", 3, A)):
            answers = told_each_way(behind, (right, "z", 1), ("right", "name", "amount"))
            self.assertEqual(answers, [NO_CALL] * 4)


class TestLapse(unittest.TestCase):
    def test_lapse(self):
        for right, name, expected in (
                (A, "a", NONE), (("all", (A, B)), "a", B), (("all", (A, B, C)), "b", ("all", (A, C))),
                (("one", (A, B)), "a", B), (("one", (A, B, C)), "b", ("one", (A, C))), (("one", (A,)), "a", NONE),
                (("within", 3, A), "a", NONE), (("calls", 3, A), "a", NONE),
                (("within", 3, ("all", (A, B))), "a", ("within", 3, B)),
                (("calls", 3, ("one", (A, B))), "b", ("calls", 3, A)),
                (("all", (("one", (A, B)), C)), "a", ("all", (B, C))),
                (("all", (("one", (("all", (A, C)), B)), ("call", "d", 2, 1))), "b",
                 ("all", (A, C, ("call", "d", 2, 1)))),
                (("one", (("all", (("one", (A, C)), B)), ("call", "d", 2, 1))), "b",
                 ("one", (A, C, ("call", "d", 2, 1)))),
                (("all", (C, ("within", 4, ("calls", 2, A)), B)), "a", ("all", (C, B))),
                (("within", 9, ("calls", 1, ("one", (A, ("all", (B, C)))))), "b",
                 ("within", 9, ("calls", 1, ("one", (A, C))))),
                (("all", (A, NONE, ("all", (B, ("one", ()))))), "b", A)):
            with self.subTest(right=right, name=name):
                self.assertEqual(told_each_way(lapse, (right, name), ("right", "name")), [expected] * 3)

    def test_lapse_leaves_the_runs_without_the_name(self):
        for right in rights_of_two_forms():
            for name in names(right):
                left = lapse(right, name)
                self.assertEqual(names(left), [other for other in names(right) if other != name])
                self.assertIs(is_trim(left), True)
                for run in all_runs(right, 2, (1, 3, 4)):
                    if name not in [other for other, _ in run]:
                        self.assertIs(is_run(left, run), True)
                for run in all_runs(left, 2, (1, 3, 4)):
                    self.assertIs(is_run(right, run), True)

    def test_a_name_of_no_call(self):
        for right in (NONE, A, ("all", (A, B)), ("one", ()), ("within", 3, A)):
            self.assertEqual(told_each_way(lapse, (right, "z"), ("right", "name")), [NO_CALL] * 3)


class TestTrimmed(unittest.TestCase):
    def test_trimmed(self):
        for right, expected in (
                (NONE, NONE), (A, A), (("all", ()), NONE), (("one", ()), NONE), (("all", (A,)), A), (("one", (A,)), A),
                (("all", (A, B)), ("all", (A, B))), (("one", (B, A)), ("one", (B, A))),
                (("all", (NONE, A, NONE, B)), ("all", (A, B))), (("one", (NONE, A, NONE, B)), ("one", (A, B))),
                (("all", (NONE, NONE)), NONE), (("one", (("all", ()), NONE)), NONE), (("all", (NONE, A)), A),
                (("all", (("all", (A, B)), C)), ("all", (A, B, C))),
                (("one", (C, ("one", (A, B)))), ("one", (C, A, B))),
                (("all", (("one", (A, B)), C)), ("all", (("one", (A, B)), C))),
                (("one", (("all", (A, B)), C)), ("one", (("all", (A, B)), C))),
                (("all", (("one", (("all", (A, B)),)), C)), ("all", (A, B, C))),
                (("one", (("all", (("one", (A, B)), NONE)), C)), ("one", (A, B, C))),
                (("all", (("within", 3, ("all", ())), A, ("calls", 3, ("one", (NONE,))))), A),
                (("within", 3, NONE), NONE), (("calls", 3, NONE), NONE),
                (("within", 3, ("calls", 2, ("one", ()))), NONE),
                (("within", 3, A), ("within", 3, A)), (("calls", 3, A), ("calls", 3, A)),
                (("within", 3, ("within", 5, A)), ("within", 3, ("within", 5, A))),
                (("calls", 3, ("calls", 5, ("all", (A,)))), ("calls", 3, ("calls", 5, A))),
                (("within", 3, ("all", (A, ("all", (B,))))), ("within", 3, ("all", (A, B)))),
                (("all", (("within", 3, ("all", (A, B))), C)), ("all", (("within", 3, ("all", (A, B))), C))),
                (("all", (("all", (("all", (("all", (A,)), B)),)), C)), ("all", (A, B, C)))):
            with self.subTest(right=right):
                self.assertEqual(told_each_way(trimmed, (right,), ("right",)), [expected] * 2)

    def test_what_is_trimmed_allows_the_same_runs(self):
        for right in rights_of_two_forms():
            left = trimmed(right)
            self.assertIs(is_right(left), True)
            self.assertIs(is_trim(left), True)
            self.assertEqual(trimmed(left), left)
            self.assertEqual(all_runs(left, 2, (1, 4)), all_runs(right, 2, (1, 4)))

    def test_what_stays_stands_as_it_stood(self):
        for right in rights_of_two_forms():
            self.assertEqual(names(trimmed(right)), names(right))


class TestAfter(unittest.TestCase):
    def test_no_call(self):
        for right in rights_of_two_forms():
            self.assertEqual(told_each_way(after, (right, []), ("right", "run")), [trimmed(right)] * 3)

    def test_runs(self):
        right = ("within", 9, ("all", (A, ("one", (B, C)))))
        for run, expected in (
                ([("a", 5)], ("within", 4, ("all", (("call", "a", 5, 1), ("one", (B, C)))))),
                ([("a", 5), ("a", 4)], NONE), ([("b", 3), ("a", 1)], ("within", 5, ("call", "a", 5, 1))),
                ([("c", 4), ("c", 1), ("c", 1)], ("within", 3, A)),
                ([("a", 1), ("c", 4), ("a", 2), ("c", 1)], ("within", 1, FEWEST_C))):
            with self.subTest(run=run):
                self.assertEqual(told_each_way(after, (right, run), ("right", "run")), [expected] * 3)

    def test_runs_call_by_call(self):
        for right in rights_of_two_forms()[::2]:
            for run in all_runs(right, 3, (1, 2, 4)):
                left = trimmed(right)
                for name, amount in run:
                    left = behind(left, name, amount)
                    self.assertIs(is_trim(left), True)
                self.assertEqual(after(right, run), left)

    def test_just_the_runs_are_runs(self):
        for right in rights_of_two_forms()[::3]:
            calls = [(name, amount) for name in ("a", "b", "c") for amount in (1, 3, 4, 5, 6)]
            for run in all_runs(right, 2, (2, 4)):
                left = after(right, run)
                for call in calls:
                    answer = told(after, right, run + [call])
                    if is_run(right, run + [call]):
                        self.assertIs(is_right(answer), True)
                    else:
                        self.assertEqual(answer, broken_at(len(run)))
                    self.assertIs(may(left, call[0]) >= call[1], is_run(right, run + [call]))

    def test_what_is_left_allows_just_what_may_follow(self):
        for right in rights_of_two_forms()[::3]:
            for run in all_runs(right, 1, (1, 3)):
                left = after(right, run)
                for calls in itertools.product([(name, amount) for name in "abcd" for amount in (1, 2, 5)], repeat=2):
                    self.assertIs(is_run(left, list(calls)), is_run(right, run + list(calls)))

    def test_runs_broken_at_each_place(self):
        right = ("all", (("call", "a", 5, 60), ("within", 40, ("call", "b", 9, 60))))
        run = [("a", 5), ("b", 9), ("a", 1), ("b", 9), ("b", 9), ("a", 3)]
        self.assertIs(is_right(after(right, run)), True)
        for place in range(len(run)):
            for bad in (("a", 6), ("b", 10), ("c", 1), ("a", 0), ("a", MANY)) + NO_CALLS[:18]:
                for broken in (run[:place] + [bad], run[:place] + [bad] + run[place:], run[:place] + [bad, bad]):
                    self.assertEqual(told(after, right, broken), broken_at(place))

    def test_what_is_no_call(self):
        for place, bad in enumerate(NO_CALLS):
            with self.subTest(place=place):
                self.assertEqual(told(after, A, [bad]), broken_at(0))
                self.assertEqual(told(after, A, [("a", 5), bad]), broken_at(1))
                self.assertEqual(told(after, A, [("a", 5), bad, ("a", 5)]), broken_at(1))

    def test_what_is_no_list(self):
        for thing in NO_LISTS:
            self.assertEqual(told_each_way(after, (A, thing), ("right", "run")), [broken_at(0)] * 3)

    def test_more_calls_than_there_are(self):
        right = ("call", "a", MANY, 60)
        self.assertEqual(after(right, [("a", MANY)] * 60), NONE)
        self.assertEqual(told(after, right, [("a", MANY)] * 61), broken_at(60))
        self.assertEqual(told(after, NONE, [("a", 1)]), broken_at(0))
        self.assertEqual(told(after, ("calls", 3, right), [("a", 1)] * 5), broken_at(3))
        self.assertEqual(told(after, ("within", 3, right), [("a", 2)] * 5), broken_at(1))


class TestRefusals(unittest.TestCase):
    def test_what_is_first_wrong_is_told(self):
        rights, few_names = NO_RIGHTS[::20] + NO_RIGHTS[1:4], NO_NAMES[::8]
        for asked, words, goods, bads, refusals in (
                (may, ("right", "name"), (A, "a"), (NO_RIGHTS, NO_NAMES), (NoRight, NoName)),
                (lapse, ("right", "name"), (A, "a"), (NO_RIGHTS, NO_NAMES), (NoRight, NoName)),
                (behind, ("right", "name", "amount"), (A, "a", 5), (rights, NO_NAMES, NO_NUMBERS_FROM_1),
                 (NoRight, NoName, NoNumber)),
                (behind, ("right", "name", "amount"), (A, "z", 6), (rights, few_names, NO_NUMBERS_FROM_1),
                 (NoRight, NoName, NoNumber)),
                (lapse, ("right", "name"), (A, "z"), (rights, NO_NAMES), (NoRight, NoName))):
            for row, place in one_or_more_wrong(goods, bads):
                with self.subTest(asked=asked.__name__, place=place):
                    self.assertEqual(told_each_way(asked, row, words), [(refusals[place], {})] * (len(row) + 1))

    def test_of_no_right(self):
        for thing in NO_RIGHTS:
            self.assertEqual(told_each_way(names, (thing,), ("right",)), [(NoRight, {})] * 2)
            self.assertEqual(told_each_way(trimmed, (thing,), ("right",)), [(NoRight, {})] * 2)
            for run in ([], [("a", 1)], [("a", 6)], None, ("a", 1), [None]):
                self.assertEqual(told_each_way(after, (thing, run), ("right", "run")), [(NoRight, {})] * 3)


class TestAnswersAreTheAskers(unittest.TestCase):
    def test_a_changed_list_of_names_changes_no_later_answer(self):
        right = ("all", (A, B))
        first, second = names(right), names(right)
        self.assertIsNot(first, second)
        first.append("c")
        first[0] = None
        self.assertEqual(second, ["a", "b"])
        self.assertEqual(names(right), ["a", "b"])
        names(NONE).append("a")
        self.assertEqual(names(NONE), [])

    def test_a_run_may_be_changed_behind_the_call(self):
        run = [("a", 1), ("b", 1)]
        left = after(("all", (A, B)), run)
        run[0] = ("z", 9)
        run.clear()
        self.assertEqual(left, ("call", "a", 5, 1))
        self.assertEqual(after(("all", (A, B)), [("a", 1), ("b", 1)]), left)

    def test_what_is_told_may_be_handed_in_again(self):
        right = ("call", "a", 10 ** 30, 10 ** 30)
        for _ in range(100):
            right = behind(right, "a", may(right, "a"))
        self.assertEqual(right, ("call", "a", 10 ** 30, 10 ** 30 - 100))

    def test_things_of_any_depth_are_told_of(self):
        self.assertEqual(told(may, A, nested(100000)), (NoName, {}))
        self.assertEqual(told(after, A, [nested(100000, list)]), broken_at(0))


if __name__ == "__main__":
    unittest.main()
