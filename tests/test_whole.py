"""What the document promises over the whole program: [1] to [4], and the sentences in brackets."""

import copy
import functools
import itertools
import unittest

from blindtill import (
    clerk, costs, counting, errors, holders, making, most, parting, piles, powers, rights, room, safe, serving)
from blindtill.house import House
from runs import NONE, all_of, chance_rights, names_in, next_calls
from test_interface import INTERFACE
from things import A, B, NO_NUMBERS, told
from ways import piles_up_to

PILE = ((1, 8), (2, 1), (5, 2))
RIGHT = ("all", (("call", "a", 3, 2), ("call", "b", 4, 1)))

# One good row of arguments for each function: those by their places, then those by their names alone.
GOOD = {
    "is_pile": (PILE,), "whole": (PILE,), "less": (PILE, 5), "put": (PILE, ((3, 1),)), "take": (PILE, ((5, 1),)),
    "payings": (PILE, 7), "is_right": (RIGHT,), "names": (RIGHT,), "may": (RIGHT, "b"), "behind": (RIGHT, "a", 2),
    "lapse": (RIGHT, "b"), "trimmed": (RIGHT,), "after": (RIGHT, [("a", 1), ("b", 4)]), "most": (RIGHT, 3, 2),
    "longest": (RIGHT,), "most_run": (RIGHT, 4, 2), "serves": (PILE, RIGHT), "stumped": (((1, 3), (5, 1)), RIGHT),
    "judge_stump": (((1, 3),), RIGHT, (None, [("b", 4)])), "pay": (PILE, 7), "paid": (PILE, [5, 0, 6]),
    "allow": (PILE, 5, 3), "is_safe": (PILE, ((5, 1),)), "telling_call": (PILE, ((1, 5),)), "safe_payings": (PILE, 5),
    "room": (PILE, RIGHT), "copies": (PILE, ("call", "a", 2, 1), B), "roomiest": (PILE, RIGHT, "b", 4),
    "no_dearer": (B, A), "telling_till": (A, B), "cover": (RIGHT,), "choice": (RIGHT,), "stands_for": (B, A),
    "telling_place": (A, B), "power": (PILE, 4), "does_all": (PILE, ((1, 4),)), "telling_right": (((1, 4),), PILE),
    "greatest": (PILE,), "alive": (PILE,), "leanest": (PILE,), "outdoes": (PILE, ((3, 2),)),
    "telling_company": (((3, 2),), PILE), "fewest": (RIGHT, [1, 2]), "lacking": (((5, 1),), RIGHT),
    "to_bring": (((5, 1),), RIGHT), "broken_up": (PILE, 5, [2, 3]), "to_break": (((1, 2), (5, 3)), RIGHT),
    "must_stay": (PILE, RIGHT), "parted": (PILE, [(15, RIGHT), (5, NONE)]), "can_part": (PILE, A, B), "ready": (PILE,),
    "undealt": (PILE, 4), "tables": (PILE, [(1, 10), (2, 10)]), "shut_group": ([((2, 1),), ((5, 1),), PILE],),
    "how_many": (RIGHT, 20, 9), "all_tills": (RIGHT, 14, 7), "till_at": (RIGHT, 20, 9, 3), "place_of": (RIGHT, PILE)}


def words_of(arguments):
    """The names of the arguments by their places, and of those behind a star."""
    by_place, _, by_name = arguments[1:-1].partition("*, ")
    return ([word for word in by_place.replace(",", " ").split()],
            [word.split("=")[0] for word in by_name.split(", ") if word])


class TestEachFunction(unittest.TestCase):
    def test_arguments_by_their_names_in_turned_order(self):
        self.assertEqual(sorted(GOOD), sorted(name for _, name, _ in INTERFACE))
        for module, name, arguments in INTERFACE:
            by_place, by_name = words_of(arguments)
            asked, handed = getattr(module, name), GOOD[name]
            first = told(asked, *handed[:len(by_place)], **dict(zip(by_name, handed[len(by_place):])))
            self.assertFalse(isinstance(first, tuple) and first and isinstance(first[0], type), (name, first))
            words = by_place + by_name
            for order in list(itertools.permutations(range(len(words))))[:24]:
                with self.subTest(name=name, order=order):
                    self.assertEqual(told(asked, **{words[at]: handed[at] for at in order}), first)
            if by_name:
                with self.assertRaises(TypeError):
                    asked(*handed)

    def test_the_same_is_told_of_the_same_whenever_it_is_asked(self):
        def ask_all():
            return [getattr(module, name)(
                **dict(zip(sum(words_of(arguments), []), copy.deepcopy(GOOD[name])))) for module, name,
                arguments in INTERFACE]

        first = ask_all()
        kept = copy.deepcopy(first)
        for answer in first:
            for thing in (answer, *(answer if isinstance(answer, tuple) else ())):
                if isinstance(thing, list):
                    thing.clear()
                    thing.append("changed")
        self.assertEqual(ask_all(), kept)
        backwards = [getattr(module, name)(**dict(zip(sum(words_of(arguments), []), GOOD[name])))
                     for module, name, arguments in reversed(INTERFACE)]
        self.assertEqual(backwards[::-1], kept)

    def test_true_and_false_are_no_numbers_at_any_place(self):
        for module, name, arguments in INTERFACE:
            by_place, by_name = words_of(arguments)
            for at, word in enumerate(by_place + by_name):
                if word in ("worth", "amount", "many", "coins", "place", "below", "calls"):
                    for bad in NO_NUMBERS:
                        if bad is not None or word not in ("below", "calls"):
                            handed = dict(zip(by_place + by_name, GOOD[name][:at] + (bad,) + GOOD[name][at + 1:]))
                            with self.subTest(name=name, word=word):
                                self.assertEqual(told(getattr(module, name), **handed), (errors.NoNumber, {}))

    def test_what_is_no_pile_no_right_no_name_at_any_place(self):
        refusals = {"pile": errors.NoPile, "paying": errors.NoPile, "right": errors.NoRight, "name": errors.NoName,
                    "purses": errors.NoPile, "seats": errors.NoParts, "parts": errors.NoParts,
                    "worths": errors.NoWorths}
        rights_held = (costs, room.copies, parting.can_part)
        for module, name, arguments in INTERFACE:
            by_place, by_name = words_of(arguments)
            for at, word in enumerate(by_place + by_name):
                of_rights = module in rights_held or getattr(module, name) in rights_held
                expected = refusals.get(word)
                if word in ("one", "other"):
                    expected = errors.NoRight if of_rights else errors.NoPile
                if expected is not None:
                    for bad in (True, False, 0, 1, "", "A", (1,), [1], ((1, 0),), ("call", "a", 1), [()],
                                [(1, NONE, 1)]):
                        handed = dict(zip(by_place + by_name, GOOD[name][:at] + (bad,) + GOOD[name][at + 1:]))
                        if (name, bad) not in (("shut_group", [()]), ("fewest", [1])):
                            with self.subTest(name=name, word=word, bad=bad):
                                self.assertEqual(told(getattr(module, name), **handed), (expected, {}))


class TestTheBlindClerk(unittest.TestCase):
    def test_each_call_of_each_run_is_paid_at_once_to_the_very_end(self):
        @functools.lru_cache(maxsize=None)
        def runs_paid(pile, right):
            """How many runs there are from here on, each paid call by call."""
            self.assertIs(serving.serves(pile, right), True)
            count = 1
            for name, amount in next_calls(right):
                left = piles.take(pile, clerk.pay(pile, amount))
                count += runs_paid(left, rights.behind(right, name, amount))
            return count

        runs_gone_through = 0
        for pile in piles_up_to(9):
            for right in chance_rights(101, 9, 4)[::3]:
                if serving.serves(pile, right):
                    runs_gone_through += runs_paid(pile, right)
        self.assertGreater(runs_gone_through, 10000)

    def test_a_house_pays_each_run_with_all_promises_beside_each_other(self):
        for pile in (((1, 6), (3, 1)), ((1, 5), (2, 2)), ((1, 4), (2, 1), (4, 1))):
            for first, second in itertools.product(chance_rights(102, 4, 2, "ab", 3)[::9], repeat=2):
                if first == NONE or not serving.serves(pile, all_of(first, second)):
                    continue
                parts = all_of(first, second)[1]
                for run in self.runs(("all", parts)):
                    house = House()
                    house.new("t", pile)
                    house.promise("t", name="p", right=parts[0])
                    house.promise("t", name="q", right=parts[1])
                    for name, amount in run:
                        house.call("t", name=name, amount=amount)
                        self.assertIs(serving.serves(house.pile_of("t"), house.right_of("t")), True)
                    self.assertEqual(house.right_of("t"), rights.after(("all", parts), run))
                    self.assertEqual(house.seen(), [("t", amount) for _, amount in run])

    def runs(self, right):
        """Some runs to the very end, of greatest amounts and of least ones, name by name and turned."""
        for backwards, greatest in itertools.product((False, True), repeat=2):
            run, left = [], right
            while names_in(left):
                names = sorted(names_in(left), reverse=backwards)
                amount = rights.may(left, names[0]) if greatest else 1
                run.append((names[0], amount))
                left = rights.behind(left, *run[-1])
            yield run

    def test_what_could_have_been_promised_beside_can_still_be_promised_behind(self):
        others = chance_rights(103, 5, 3, "ab", 3)[::4]
        for pile in (((1, 6), (3, 1)), ((1, 5), (2, 2)), ((1, 4), (2, 1), (4, 1)), ((1, 9),)):
            for right in chance_rights(104, 6, 3, "ab", 4)[::4]:
                if serving.serves(pile, right):
                    beside = [other for other in others if serving.serves(pile, all_of(right, other))]
                    for name, amount in next_calls(right):
                        left, rest = piles.take(pile, clerk.pay(pile, amount)), rights.behind(right, name, amount)
                        for other in beside:
                            self.assertIs(serving.serves(left, all_of(rest, other)), True)


class TestOneThingToldInSeveralWays(unittest.TestCase):
    def test_answers_fit_each_other(self):
        rights_to_hold = chance_rights(105, 12, 6)[::4]
        for pile in piles_up_to(7)[::2]:
            greatest = powers.greatest(pile)
            for right in rights_to_hold:
                served = serving.serves(pile, right)
                with self.subTest(pile=pile, right=right):
                    self.assertIs(served, serving.stumped(pile, right) is None)
                    self.assertIs(served, costs.no_dearer(right, greatest))
                    self.assertIs(served, making.lacking(pile, right) == 0)
                    self.assertIs(served, making.to_bring(pile, right) == ())
                    self.assertIs(served, serving.serves(pile, costs.choice(right)))
                    self.assertIs(served, isinstance(told(counting.place_of, right, pile), int))
                    self.assertTrue(served or not serving.serves(pile, self.own(costs.cover(right))))
                    if served:
                        self.assertEqual(room.room(pile, right), max(
                            [0] + [amount for amount in range(1, 12) if serving.serves(pile,
                                                                                       all_of(right,
                                                                                              ("call", "n", amount,
                                                                                               1)))]))
                        self.assertIs(powers.does_all(pile, making.must_stay(pile, right)), True)

    def own(self, lots):
        return ("all", tuple(("call", "abcdefghijklmnopqrstuvwxyz"[at], each, times) for at,
                             (each, times) in enumerate(lots)))

    def test_a_pile_outdoes_what_it_was_broken_from(self):
        for pile in piles_up_to(8):
            for worth, _ in pile:
                if worth > 1:
                    broken = making.broken_up(pile, worth, [1, worth - 1])
                    self.assertIs(powers.outdoes(broken, pile), True)
                    self.assertIs(powers.outdoes(pile, broken), False)
            self.assertIs(holders.ready(pile) is None, holders.undealt(pile, 60) is None)
            self.assertIsNone(safe.telling_call(pile, clerk.pay(pile, pile[0][0])) if pile else None)
            self.assertEqual(most.most(powers.greatest(pile)), powers.power(pile))


if __name__ == "__main__":
    unittest.main()
