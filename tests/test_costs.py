"""Points [19] to [21], and what [2], [3] and [4] say of rights held against rights."""

import itertools
import unittest

from blindtill.costs import choice, cover, no_dearer, stands_for, telling_place, telling_till
from blindtill.errors import NoRight, TooGreat
from blindtill.making import fewest
from blindtill.most import longest, most
from blindtill.piles import is_pile
from blindtill.rights import is_right, names, trimmed
from blindtill.serving import serves
from runs import NONE, all_of, any_rights, chance_rights, mosts_in, names_in, parts_of, renamed
from things import (
    A, B, C, NO_RIGHTS, count_up, first_wrong, one_or_more_wrong, seconds, told, told_each_way, within)
from ways import is_honoured, lists_of, piles_up_to

MANY = 10 ** 12
RIGHTS = chance_rights(41, 12, 6) + any_rights(42, 60, "abcdef", 9, 3)
FEW = RIGHTS[::4] + [NONE, ("all", ()), ("call", "a", 1, 1), ("call", "a", 2, 1), ("call", "a", 1, 2)]
SMALL_PILES = piles_up_to(9)
BOTH = ("one", "other")
# Of sixty calls of each name, of amounts that fall slowly, where so many calls are shared out.
CHOICES = ("calls", 11, ("all", tuple(("one", tuple(
    ("call", "abcdefghijkl"[3 * at + way], (200, 99, 75)[way] - at, way + 1) for way in range(3))) for at in range(4))))
GREAT = ("within", 200, CHOICES)


def call_of(amount, times=1):
    return ("call", "n", amount, times)


def depth(right):
    return 1 + max([depth(part) for part in parts_of(right)], default=0)


def calls_in(right):
    return [right] if right[0] == "call" else [call for part in parts_of(right) for call in calls_in(part)]


def is_no_dearer(one, other, calls=None):
    """Whether the one's mosts are no greater, looked at far beyond all numbers in both."""
    greatest = max(mosts_in(one) + mosts_in(other), default=0)
    return all(most(one, below=below, calls=calls) <= most(other, below=below, calls=calls)
               for below in range(1, greatest + 3))


class TestNoDearer(unittest.TestCase):
    def check(self, one, other):
        answer = told_each_way(no_dearer, (one, other), BOTH)
        pile = told_each_way(telling_till, (one, other), BOTH)
        with self.subTest(one=one, other=other):
            self.assertEqual(answer, [is_no_dearer(one, other)] * 3)
            self.assertIsInstance(answer[0], bool)
            self.assertEqual(pile, [pile[0]] * 3)
            self.assertIs(pile[0] is None, answer[0])
            if pile[0] is not None:
                self.assertIs(is_pile(pile[0]), True)
                self.assertIs(serves(pile[0], other), True)
                self.assertIs(serves(pile[0], one), False)

    def test_rights_by_chance(self):
        for one, other in itertools.product(FEW[::2], FEW[1::2]):
            self.check(one, other)

    def test_near_rights(self):
        for right in RIGHTS[::3]:
            for other in (right, trimmed(right), ("within", max(1, most(right)), right), ("within", 3, right),
                          ("calls", 2, right), ("calls", max(1, longest(right)), right), ("all", (right, call_of(1))),
                          ("one", (right, call_of(1)))):
                if depth(other) <= 6:
                    self.check(right, other)
                    self.check(other, right)

    def test_against_all_small_piles(self):
        small = [right for right in FEW[::2] if most(right) <= 9]
        served = {other: [pile for pile in SMALL_PILES if serves(pile, other)] for other in small}
        for one in small:
            for other in small:
                pile = telling_till(one, other)
                with self.subTest(one=one, other=other):
                    if pile is None:
                        self.assertEqual([pile for pile in served[other] if not serves(pile, one)], [])
                    else:
                        self.assertIs(serves(pile, other) and not serves(pile, one), True)

    def test_against_all_ways_of_paying(self):
        rights = chance_rights(43, 5, 3, "ab", 4)[::5]
        for one, other in itertools.product(rights, rights):
            pile = telling_till(one, other)
            with self.subTest(one=one, other=other):
                if pile is None:
                    piles = [pile for pile in piles_up_to(5) if is_honoured(pile, other)]
                    self.assertEqual([pile for pile in piles if not is_honoured(pile, one)], [])
                else:
                    self.assertIs(is_honoured(pile, other) and not is_honoured(pile, one), True)

    def test_the_greatest_most_counts(self):
        for one, other, expected in (
                (NONE, NONE, True), (NONE, call_of(1), True), (call_of(1), NONE, False), (call_of(7), call_of(7), True),
                (call_of(8), call_of(7), False), (call_of(7), call_of(8), True), (call_of(2), call_of(1, 2), True),
                (call_of(1, 2), call_of(2), False), (call_of(4), call_of(2, 2), True),
                (call_of(200), call_of(199, 1), False), (call_of(199), call_of(200), True),
                (call_of(200), call_of(1, 200), True), (call_of(5, 40), call_of(40, 5), False),
                (("within", 200, call_of(3, 9)), call_of(3, 9), True), (("all", ()), ("one", ()), True)):
            self.check(one, other)
            self.assertIs(no_dearer(one, other), expected)

    def test_till_of_what_costs_nothing(self):
        for one in (call_of(1), call_of(200), call_of(1, 200), ("one", (A, B))):
            self.check(one, NONE)
            self.check(one, ("all", ()))


class TestCover(unittest.TestCase):
    def test_cover(self):
        for right, expected in (
                (NONE, ()), (("all", ()), ()), (A, ((5, 2),)), (("all", (A, B)), ((5, 2), (3, 1))),
                (("one", (A, B)), ((5, 2),)), (("within", 7, A), ((4, 1), (3, 1))), (("within", 4, A), ((2, 2),)),
                (("one", (call_of(6), ("call", "b", 1, 5))), ((2, 1), (1, 4))),
                (("within", 5, ("all", (call_of(3), ("call", "b", 3, 1)))), ((3, 1), (2, 1))),
                (("calls", 1, ("all", (A, B, C))), ((5, 1),)), (call_of(200), ((200, 1),)),
                (call_of(1, 200), ((1, 200),)), (call_of(1), ((1, 1),))):
            with self.subTest(right=right):
                self.assertEqual(told_each_way(cover, (right,), ("right",)), [expected] * 2)

    def test_it_is_no_cheaper_and_the_cheapest_of_rights_of_calls(self):
        lists = [amounts for total in range(13) for amounts in lists_of(total, total)]
        for right in chance_rights(44, 8, 5)[::6]:
            lots = cover(right)
            with self.subTest(right=right, lots=lots):
                self.assertEqual([amount for amount, _ in lots], sorted({amount for amount, _ in lots}, reverse=True))
                own = all_of(*[call_of(amount, times) for amount, times in lots])
                self.assertIs(no_dearer(right, own), True)
                for amounts in lists:
                    others = all_of(*[call_of(amount) for amount in amounts])
                    if is_no_dearer(right, others):
                        self.assertIs(no_dearer(own, others), True)

    def test_by_the_sentence_in_brackets(self):
        for right in RIGHTS + [GREAT, ("within", 200, C), ("within", 200, call_of(150, 2))]:
            greatest = max([call[2] for call in calls_in(right)], default=0)
            mosts = [0] + [most(right, below=below) for below in range(1, greatest + 2)]
            amounts, reached = [], 0
            for worth in range(1, greatest + 1):
                calls = 0
                while any(reached + calls * (below - worth) < mosts[below] for below in range(worth, greatest + 2)):
                    calls += 1
                reached += calls
                amounts.append(calls)
            counts = [(worth, amounts[worth - 1] - (amounts + [0])[worth]) for worth in range(1, greatest + 1)]
            expected = tuple((worth, times) for worth, times in reversed(counts) if times)
            self.assertEqual(told(cover, right), expected)


class TestChoice(unittest.TestCase):
    def test_choice(self):
        for right, expected in (
                (NONE, NONE), (("one", ()), NONE), (call_of(1), ("call", "a", 1, 1)),
                (call_of(1, 9), ("call", "a", 1, 9)),
                (call_of(2), ("one", (("call", "a", 1, 1), ("call", "b", 2, 1)))),
                (call_of(2, 2), ("one", (("call", "a", 1, 2), ("call", "b", 2, 2)))),
                # Rows that come out alike all stay; the most of a call counts, whatever withins stand around it.
                (("within", 1, call_of(3)), ("one", (("call", "a", 1, 1), ("call", "b", 1, 1), ("call", "c", 1, 1)))),
                (("within", 3, call_of(2, 9)), ("one", (
                    ("call", "a", 1, 3), ("all", (("call", "b", 2, 1), ("call", "c", 1, 1)))))),
                (("within", 5, call_of(3, 2)), ("one", (
                    ("call", "a", 1, 2), ("call", "b", 2, 2),
                    ("all", (("call", "c", 3, 1), ("call", "d", 2, 1)))))),
                (("one", (call_of(3), ("call", "b", 1, 2))), ("one", (
                    ("call", "a", 1, 2), ("call", "b", 2, 1), ("call", "c", 3, 1))))):
            with self.subTest(right=right):
                self.assertEqual(told_each_way(choice, (right,), ("right",)), [expected] * 2)

    def test_row_by_row(self):
        for right in RIGHTS + [GREAT, call_of(200), ("within", 200, call_of(200, 2)),
                               ("within", 199, call_of(199, 199))]:
            rows = []
            for below in range(2, max([call[2] for call in calls_in(right)], default=0) + 2):
                total = most(right, below=below)
                lots = [(below - 1, total // (below - 1)), (total % (below - 1), 1)]
                rows.append([lot for lot in lots if lot[0] and lot[1]])
            rows = [row for row in rows if row]
            letters = "abcdefghijklmnopqrstuvwxyz"
            own = iter(list(letters) + [first + second for first in letters for second in letters])
            rights = [tuple(("call", next(own), *lot) for lot in row) for row in rows]
            parts = [calls[0] if len(calls) == 1 else ("all", calls) for calls in rights]
            expected = NONE if not parts else parts[0] if len(parts) == 1 else ("one", tuple(parts))
            with self.subTest(right=right):
                self.assertEqual(told(choice, right), expected)

    def test_it_costs_just_what_the_right_costs(self):
        for right in RIGHTS[::2] + [GREAT, call_of(200), call_of(1, 200), ("within", 200, call_of(150, 2))]:
            answer = choice(right)
            with self.subTest(right=right):
                self.assertIs(is_right(answer), True)
                self.assertEqual(trimmed(answer), answer)
                for below in range(1, 203):
                    self.assertEqual(most(answer, below=below), most(right, below=below))

    def test_names_beyond_z(self):
        answer = choice(("within", 199, call_of(199, 199)))
        self.assertEqual(names(answer)[:3] + names(answer)[25:29] + names(answer)[51:54],
                         ["a", "b", "c", "z", "aa", "ab", "ac", "az", "ba", "bb"])
        self.assertEqual(len(set(names(answer))), len(names(answer)))
        self.assertGreater(len(names(answer)), 300)


class TestStandsFor(unittest.TestCase):
    def check(self, one, other):
        answers = told_each_way(stands_for, (one, other), BOTH)
        places = told_each_way(telling_place, (one, other), BOTH)
        with self.subTest(one=one, other=other, place=places[0]):
            expected = all(is_no_dearer(one, other, calls)
                           for calls in range(1, max(longest(one), longest(other)) + 2))
            self.assertEqual(answers, [expected] * 3)
            self.assertIsInstance(answers[0], bool)
            self.assertEqual(places, [places[0]] * 3)
            self.assertIs(places[0] is None, answers[0])
            if places[0] is not None:
                self.assertIs(type(places[0]), tuple)
                calls, pile = places[0]
                self.assertIs(serves(pile, ("calls", calls, other)), True)
                self.assertIs(serves(pile, ("calls", calls, one)), False)

    def test_rights_by_chance(self):
        for one, other in itertools.product(FEW[::2], FEW[1::4] + FEW[::8]):
            if max(longest(one), longest(other)) <= 12 and max(depth(one), depth(other)) <= 5:
                self.check(one, other)

    def test_stands_for(self):
        for one, other, expected in (
                (NONE, NONE, True), (NONE, A, True), (A, NONE, False), (A, A, True), (call_of(2), call_of(1, 2), False),
                (call_of(1, 2), call_of(2), False), (call_of(2), call_of(2, 2), True),
                (("one", (A, B)), ("all", (A, B)), True), (("within", 6, A), ("call", "d", 3, 2), False),
                (("call", "d", 3, 2), ("within", 6, A), True), (("calls", 1, A), ("call", "d", 5, 1), True),
                (("call", "d", 5, 1), ("calls", 1, A), True), (call_of(4), ("all", (call_of(3), B)), False),
                (call_of(16, 12), call_of(16, 12), True), (call_of(1, 12), call_of(1, 11), False)):
            self.check(one, other)
            self.assertIs(stands_for(one, other), expected)

    def test_in_others_place_in_each_right(self):
        arounds = (lambda part: part, lambda part: ("calls", 2, part),
                   lambda part: ("all", (part, ("call", "x", 3, 1))),
                   lambda part: ("calls", 2, ("all", (part, ("call", "x", 3, 1)))),
                   lambda part: ("calls", 3, ("all", (("within", 4, part), ("call", "x", 2, 2)))),
                   lambda part: ("calls", 1, ("one", (("call", "x", 2, 2), part))))
        for one, other in itertools.product(FEW[::2], FEW[::2]):
            if depth(one) <= 3 and depth(other) <= 3 and max(longest(one), longest(other)) <= 12:
                if stands_for(one, other):
                    for around in arounds:
                        inner, outer = around(renamed(one, "p")), around(renamed(other, "p"))
                        self.assertIs(is_no_dearer(inner, outer), True)


class TestTooGreat(unittest.TestCase):
    def test_what_is_not_small(self):
        for right in (call_of(201), call_of(1, 201), call_of(101, 2), ("within", 201, A), ("within", MANY, NONE),
                      ("within", 1, call_of(201)), ("within", 200, call_of(201)), ("all", (call_of(200), B)),
                      ("one", (A, ("calls", 1, call_of(MANY)))), ("all", (("within", 201, NONE), A)),
                      ("within", 9, ("within", 201, C)), call_of(10 ** 30)):
            with self.subTest(right=right):
                for asked in (cover, choice, fewest):
                    self.assertEqual(told_each_way(asked, (right,), ("right",)), [(TooGreat, {})] * 2)
                for asked in (no_dearer, telling_till, stands_for, telling_place):
                    for row in ((right, B), (B, right), (right, right)):
                        self.assertEqual(told_each_way(asked, row, BOTH), [(TooGreat, {})] * 3)

    def test_what_is_just_small(self):
        for right in (call_of(200), call_of(1, 200), call_of(100, 2), ("within", 200, call_of(200, MANY)),
                      ("one", (call_of(200), ("call", "b", 200, 1))), ("calls", 1, call_of(200, MANY)),
                      ("within", 200, NONE), ("calls", MANY, B), ("within", 200, call_of(1, MANY))):
            with self.subTest(right=right):
                self.assertIs(no_dearer(right, right), True)
                self.assertIsNone(telling_till(right, right))
                self.assertEqual(sum(amount * times for amount, times in cover(right)) >= most(right), True)
                self.assertEqual(most(choice(right)), most(right))

    def test_how_deep_and_how_long_a_right_may_stand(self):
        nones = NONE
        for _ in range(5):
            nones = ("all", (nones,))
        deep = [within(4, B), within(5, B), ("all", (A, within(4, B))), ("all", (A, within(3, B))), nones, nones[1][0]]
        for right in deep:
            refused = depth(right) > 5
            expected = [(TooGreat, {})] * 3 if refused else None
            for asked in (stands_for, telling_place):
                for row in ((right, ("call", "z", 9, 9)), (("call", "z", 9, 9), right), (right, right)):
                    answers = told_each_way(asked, row, BOTH)
                    self.assertEqual(answers, expected or [answers[0]] * 3)
                    self.assertIs(answers[0] == (TooGreat, {}), refused)
            self.assertIsInstance(no_dearer(right, right), bool)
            self.assertIsInstance(no_dearer(B, right), bool)
        for right in (call_of(1, 13), ("calls", 13, call_of(1, 99)), ("all", (call_of(1, 12), B)),
                      ("within", 13, call_of(9, 99))):
            for asked in (stands_for, telling_place):
                for row in ((right, B), (B, right)):
                    self.assertEqual(told_each_way(asked, row, BOTH), [(TooGreat, {})] * 3)
            self.assertIs(no_dearer(right, right), True)
        for right in (call_of(1, 12), ("calls", 12, call_of(1, 99)), ("all", (call_of(1, 11), B)),
                      ("within", 12, call_of(9, 99))):
            self.assertIs(stands_for(right, right), True)
            self.assertIsNone(telling_place(right, right))


class TestRefusals(unittest.TestCase):
    def test_what_is_no_right(self):
        for asked in (cover, choice):
            for thing in NO_RIGHTS:
                self.assertEqual(told_each_way(asked, (thing,), ("right",)), [(NoRight, {})] * 2)
        few = NO_RIGHTS[::12]
        for asked in (no_dearer, telling_till, stands_for, telling_place):
            for bads in ((few, few), (NO_RIGHTS, ()), ((), NO_RIGHTS)):
                for answers, expected in first_wrong(asked, BOTH, (A, B), bads, (NoRight, NoRight)):
                    self.assertEqual(answers, expected)
            # Told ahead of TooGreat.
            for row, _ in one_or_more_wrong((call_of(201), within(5, call_of(201))), (few, few)):
                self.assertEqual(told(asked, *row), (NoRight, {}))


class TestAnswers(unittest.TestCase):
    def test_what_is_told_may_be_handed_in_again(self):
        answer = choice(GREAT)
        self.assertEqual(cover(answer), cover(GREAT))
        self.assertIs(no_dearer(answer, GREAT) and no_dearer(GREAT, answer), True)
        self.assertEqual(choice(answer), answer)
        self.assertEqual(fewest(answer), fewest(GREAT))
        self.assertIs(no_dearer(("calls", 7, answer), answer), True)
        self.assertIs(stands_for(("calls", 12, answer), ("calls", 11, answer)) in (True, False), True)

    def test_nothing_is_kept_between_calls(self):
        for _ in range(2):
            self.assertEqual(cover(A), ((5, 2),))
            self.assertEqual(choice(call_of(2)), ("one", (("call", "a", 1, 1), ("call", "b", 2, 1))))
            self.assertEqual(names_in(choice(A))[:2], ["a", "b"])


class TestSoon(unittest.TestCase):
    def test_great_rights_are_told_of_soon(self):
        answer = choice(("within", 199, call_of(199, 199)))
        for right in (GREAT, answer, ("calls", 12, answer)):
            for work in (lambda: cover(right), lambda: choice(right), lambda: no_dearer(right, right),
                         lambda: told(stands_for, right, right)):
                self.assertLess(seconds(work, 1), 250 * seconds(count_up, 3))


if __name__ == "__main__":
    unittest.main()
