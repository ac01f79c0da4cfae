"""Points [35] to [38], and what [2], [3] and [4] say of a house, held against a house kept by hand."""

import copy
import itertools
import random
import unittest

from blindtill.clerk import pay
from blindtill.errors import (
    NoCall, NoCoins, NoName, NoNumber, NoParts, NoPile, NoPromise, NoRight, NoTill, Stuck, Taken, TooGreat)
from blindtill.house import House
from blindtill.piles import whole
from blindtill.rights import may
from blindtill.serving import serves
from hand import HandHouse, all_of_rows, trim
from runs import NONE, any_right, names_in, renamed
from things import (
    A, B, NO_NAMES, NO_NUMBERS, NO_NUMBERS_FROM_1, NO_PILES, NO_RIGHTS, count_up, is_deep, nested, seconds, told,
    unserved,
    within)

MANY = 10 ** 12
NO_CALL = (NoCall, {"place": None})
# What each deed is handed: by its place or its name, then those by their names alone.
ARGUMENTS = {
    "new": (("till", "pile"), ()), "bring": (("till", "pile"), ()), "promise": (("till",), ("name", "right")),
    "call": (("till",), ("name", "amount")), "lapse": (("till",), ("name",)), "end": (("till",), ("name",)),
    "would": (("till", "right"), ()), "cut": (("till",), ("name", "others")), "melt": (("till",), ("which", "into")),
    "break_coin": (("till",), ("worth", "parts")), "lend": (("till", "pile"), ()), "unite": (("till", "other"), ()),
    "part": (("till", "other"), ("worth", "which")), "carry": (("till", "other"), ("name",))}
CHOICE = ("one", (("all", (("call", "d", 3, 1), ("call", "e", 2, 1), ("call", "f", 4, 2))), ("call", "g", 6, 1)))


def done(house, deed, *handed):
    """What a house tells of a deed: the deed's arguments stand in their order."""
    by_place, by_name = ARGUMENTS[deed]
    named = dict(zip(by_name, handed[len(by_place):]))
    return told(getattr(house, deed), *handed[:len(by_place)], **named)


def standing(house):
    """All that a house tells of itself."""
    return (house.tills(), [(house.pile_of(till), house.promises_of(till),
                             house.right_of(till)) for till in house.tills()],
            house.seen(), house.flow())


def hand_standing(hand):
    tills = sorted(hand.tills)
    return (tills, [(hand.tills[till][0], hand.tills[till][1], all_of_rows(hand.tills[till][1])) for till in tills],
            hand.seen, tuple(hand.flow))


def house_of(*deeds):
    """A house behind deeds of which none is refused."""
    house = House()
    for deed in deeds:
        answer = done(house, *deed)
        assert not (isinstance(answer, tuple) and answer and isinstance(answer[0], type)), (deed, answer)
    return house


def hand_of(*deeds):
    hand = HandHouse()
    for deed in deeds:
        getattr(hand, deed[0])(*deed[1:])
    return hand


BEGUN = (("new", "a", ((1, 20), (5, 3), (10, 1))), ("promise", "a", "p", A),
         ("promise", "a", "q", ("all", (B, ("call", "c", 4, 1)))),
         ("new", "b", ((1, 12), (2, 4))), ("promise", "b", "r", CHOICE), ("new", "c", ((1, 3), (3, 1))))


class HouseCase(unittest.TestCase):
    def check_refused(self, house, expected, deed, *handed):
        """A deed that is refused so, and changes nothing."""
        before = standing(house)
        with self.subTest(deed=deed, handed=[thing for thing in handed if not is_deep(thing)]):
            self.assertEqual(done(house, deed, *handed), expected)
            self.assertEqual(standing(house), before)

    def check_alike(self, house, hand):
        self.assertEqual(standing(house), hand_standing(hand))
        self.assertIs(hand.is_whole_and_served(), True)


class TestDeeds(HouseCase):
    def test_an_empty_house(self):
        house = House()
        self.assertEqual(standing(house), ([], [], [], (0, 0, 0)))

    def test_a_row_of_deeds(self):
        house = house_of(*BEGUN)
        self.assertEqual(house.tills(), ["a", "b", "c"])
        self.assertEqual(house.pile_of("a"), ((1, 20), (5, 3), (10, 1)))
        self.assertEqual(house.promises_of("a"), [("p", A), ("q", ("all", (B, ("call", "c", 4, 1))))])
        self.assertEqual(house.right_of("a"), ("all", (A, B, ("call", "c", 4, 1))))
        self.assertEqual((house.right_of("b"), house.right_of("c"), house.promises_of("c")), (CHOICE, NONE, []))
        self.assertEqual(house.flow(), (45 + 20 + 6, 0, 0))
        self.assertEqual(house.call("a", name="a", amount=5), ((5, 1),))
        self.assertEqual(house.promises_of("a")[0], ("p", ("call", "a", 5, 1)))
        self.assertEqual(house.call("a", name="a", amount=3), ((1, 3),))
        self.assertEqual(house.promises_of("a"), [("q", ("all", (B, ("call", "c", 4, 1))))])
        self.assertIsNone(house.lapse("a", name="b"))
        self.assertEqual(house.promises_of("a"), [("q", ("call", "c", 4, 1))])
        self.assertIsNone(house.end("a", name="q"))
        self.assertEqual((house.promises_of("a"), house.right_of("a")), ([], NONE))
        self.assertEqual(house.call("b", name="e", amount=2), ((2, 1),))
        self.assertEqual(house.right_of("b"), ("all", (("call", "d", 3, 1), ("call", "f", 4, 2))))
        self.assertIsNone(house.cut("b", name="d", others=[("x", 1), ("d", 2)]))
        self.assertEqual(house.right_of("b"), ("all", (("call", "x", 1, 1), ("call", "d", 2, 1), ("call", "f", 4, 2))))
        self.assertIsNone(house.melt("b", which=["d", "x"], into="d"))
        self.assertEqual(house.right_of("b"), ("all", (("call", "d", 3, 1), ("call", "f", 4, 2))))
        self.assertIsNone(house.break_coin("a", worth=10, parts=[3, 3, 4]))
        self.assertEqual(house.pile_of("a"), ((1, 17), (3, 2), (4, 1), (5, 2)))
        self.assertIsNone(house.lend("a", ((1, 10), (3, 1))))
        self.assertEqual((house.pile_of("a"), house.flow()), (((1, 7), (3, 1), (4, 1), (5, 2)), (71, 10, 13)))
        self.assertIsNone(house.carry("b", "a", name="r"))
        self.assertEqual((house.promises_of("b"), [name for name, _ in house.promises_of("a")]), ([], ["r"]))
        self.assertIsNone(house.unite("c", "a"))
        self.assertEqual((house.tills(), house.pile_of("c")), (["b", "c"], ((1, 10), (3, 2), (4, 1), (5, 2))))
        self.assertIsNone(house.part("c", "a", worth=11, which=["r"]))
        self.assertEqual((house.tills(), house.promises_of("c")), (["a", "b", "c"], []))
        self.assertEqual((whole(house.pile_of("a")), whole(house.pile_of("c"))), (11, 19))
        self.assertEqual(house.seen(), [("a", 5), ("a", 3), ("b", 2)])
        self.assertIsNone(house.bring("c", ((7, 1),)))
        self.assertEqual(house.flow(), (78, 10, 13))

    def test_arguments_by_their_names_in_turned_order(self):
        first, second = house_of(*BEGUN), house_of(*BEGUN)
        for deed in (("bring", "a", ((1, 1),)), ("promise", "c", "s", ("call", "z", 1, 1)), ("call", "a", "c", 2),
                     ("lapse", "b", "g"), ("cut", "b", "e", [("h", 1), ("i", 1)]), ("melt", "b", ["h", "i"], "e"),
                     ("break_coin", "a", 10, [5, 5]), ("lend", "a", ((5, 1),)), ("carry", "c", "a", "s"),
                     ("end", "a", "s"),
                     ("would", "a", B), ("part", "a", "d", 9, ["q"]), ("unite", "b", "a"), ("new", "e", ())):
            words = sum(ARGUMENTS[deed[0]], ())
            named = dict(reversed(list(zip(words, deed[1:]))))
            self.assertEqual(done(first, *deed), told(getattr(second, deed[0]), **named))
            self.assertEqual(standing(first), standing(second))
            with self.assertRaises(TypeError):
                getattr(first, deed[0])(*deed[1:], 1)
            if ARGUMENTS[deed[0]][1]:
                with self.assertRaises(TypeError):
                    getattr(first, deed[0])(*deed[1:])
        self.assertEqual(first.pile_of(till="b"), first.pile_of("b"))
        self.assertEqual(first.promises_of(till="b"), first.promises_of("b"))
        self.assertEqual(first.right_of(till="b"), first.right_of("b"))

    def test_lists_are_the_askers_own(self):
        house = house_of(*BEGUN)
        house.call("a", name="a", amount=1)
        before = copy.deepcopy(standing(house))
        for asked in (house.tills, house.seen, lambda: house.promises_of("a"), lambda: house.promises_of("c")):
            asked().append("x")
            asked().clear()
            self.assertEqual(standing(house), before)
            self.assertIsNot(asked(), asked())
        others, which, parts = [("h", 1), ("i", 1)], ["h", "i"], [5, 5]
        house.cut("b", name="e", others=others)
        others.append(("j", 1))
        house.melt("b", which=which, into="e")
        which.clear()
        house.break_coin("a", worth=10, parts=parts)
        parts.append(1)
        self.assertEqual(house.right_of("b"), CHOICE)
        self.assertEqual(dict(house.pile_of("a"))[5], 5)
        which = ["p"]
        house.part("a", "d", worth=12, which=which)
        which.append("q")
        house.promises_of("d").clear()
        self.assertEqual(house.promises_of("d"), [("p", ("call", "a", 5, 1))])

    def test_two_houses_share_nothing(self):
        one, other = house_of(*BEGUN), House()
        self.assertEqual(standing(other), ([], [], [], (0, 0, 0)))
        for deed in BEGUN:
            self.assertIsNone(done(other, *deed))
        before = standing(one)
        for deed in (("call", "a", "a", 5), ("end", "a", "q"), ("unite", "a", "b"), ("lend", "c", ((1, 1),)),
                     ("bring", "c", ((9, 1),))):
            done(other, *deed)
        self.assertEqual(standing(one), before)
        self.assertNotEqual(standing(other), before)

    def test_what_trims_to_none_is_not_kept(self):
        house = house_of(*BEGUN)
        before = standing(house)
        for right in (NONE, ("all", ()), ("one", (NONE, ("calls", 3, NONE))), within(5, NONE)):
            self.assertIsNone(done(house, "promise", "a", "s", right))
            self.check_refused(house, (Taken, {}), "promise", "a", "r", right)
            self.check_refused(house, (NoTill, {}), "promise", "d", "r", right)
            self.check_refused(house, (NoName, {}), "promise", "a", "", right)
        self.assertEqual(standing(house), before)
        full = house_of(("new", "a", ((1, 99),)), *[("promise", "a", "p" + each,
                                                     ("call", each, 1, 1)) for each in "abcdefghijkl"])
        self.assertIsNone(done(full, "promise", "a", "pm", NONE))
        self.check_refused(full, (TooGreat, {}), "promise", "a", "pm", ("call", "m", 1, 1))

    def test_rights_are_kept_trimmed(self):
        house = house_of(("new", "a", ((1, 99),)), ("promise", "a", "p", ("all", (NONE, ("all", (A, ("one", (B,))))))))
        self.assertEqual(house.promises_of("a"), [("p", ("all", (A, B)))])

    def test_names_are_free_again_once_nothing_has_them(self):
        house = house_of(*BEGUN)
        self.check_refused(house, (Taken, {}), "promise", "c", "s", ("call", "g", 1, 1))
        house.call("b", name="d", amount=1)
        # The other one of the "one" is gone with its name.
        self.assertIsNone(done(house, "promise", "c", "s", ("call", "g", 1, 1)))
        self.check_refused(house, (Taken, {}), "promise", "c", "p", ("call", "h", 1, 1))
        house.end("a", name="p")
        self.assertIsNone(done(house, "promise", "c", "p", ("call", "a", 1, 1)))
        self.check_refused(house, (Taken, {}), "new", "b", ())
        house.unite("a", "b")
        self.assertIsNone(done(house, "new", "b", ()))
        # A name of each kind by itself.
        self.assertIsNone(done(house, "new", "p", ((1, 9),)))
        self.assertIsNone(done(house, "promise", "p", "a", ("call", "p", 1, 1)))


class TestCutAndMelt(HouseCase):
    def test_cut_where_the_call_stands(self):
        for right, name, others, expected in (
                (("call", "a", 5, 1), "a", [("x", 2), ("y", 3)], ("all", (("call", "x", 2, 1), ("call", "y", 3, 1)))),
                (("all", (("call", "a", 5, 1), B)), "a", [("x", 2), ("y", 3)],
                 ("all", (("call", "x", 2, 1), ("call", "y", 3, 1), B))),
                (("one", (B, ("call", "a", 5, 1))), "a", [("y", 3), ("a", 1), ("x", 1)],
                 ("one", (B, ("all", (("call", "y", 3, 1), ("call", "a", 1, 1), ("call", "x", 1, 1)))))),
                (("within", 4, ("call", "a", 5, 1)), "a", [("x", 1), ("y", 4)],
                 ("within", 4, ("all", (("call", "x", 1, 1), ("call", "y", 4, 1)))))):
            house = house_of(("new", "t", ((1, 30),)), ("promise", "t", "p", right))
            self.assertIsNone(done(house, "cut", "t", name, others))
            self.assertEqual(house.promises_of("t"), [("p", expected)])

    def test_melt_where_the_calls_stand(self):
        calls = tuple(("call", name, most, 1) for name, most in zip("abcd", (2, 3, 4, 5)))
        one = ("call", "m", 6, 1)
        for right, which, expected in (
                (("all", calls[:2]), ["a", "b"], ("call", "m", 5, 1)),
                (("all", calls[:2]), ["b", "a"], ("call", "m", 5, 1)),
                (("all", calls), ["c", "a"], ("all", (one, calls[1], calls[3]))),
                (("all", (calls[1], calls[2], calls[0])), ["a", "c"], ("all", (calls[1], one))),
                (("one", (calls[3], ("all", calls[:3:2]))), ["a", "c"], ("one", (calls[3], one))),
                (("within", 4, ("all", calls[:3])), ["a", "c"], ("within", 4, ("all", (one, calls[1])))),
                (("all", (calls[3], ("calls", 1, ("all", calls[:3])))), ["a", "c"],
                 ("all", (calls[3], ("calls", 1, ("all", (one, calls[1])))))),
                (("one", (("all", (calls[0], ("one", (calls[1], calls[3])), calls[2])), B[:1] + ("e", 3, 1))),
                 ["a", "c"],
                 ("one", (("all", (one, ("one", (calls[1], calls[3])))), B[:1] + ("e", 3, 1))))):
            house = house_of(("new", "t", ((1, 30),)), ("promise", "t", "p", right))
            with self.subTest(right=right, which=which):
                self.assertIsNone(done(house, "melt", "t", which, "m"))
                self.assertEqual(house.promises_of("t"), [("p", expected)])

    def test_melt_of_calls_that_do_not_stand_so(self):
        right = ("all", (("call", "a", 2, 1), ("one", (("call", "b", 2, 1), ("call", "c", 2, 1), ("call", "g", 3, 2)))))
        house = house_of(("new", "t", ((1, 60),)), ("promise", "t", "p", right),
                         ("promise", "t", "q", ("call", "d", 2, 1)),
                         ("promise", "t", "r", ("all", (("call", "e", 2, 2), ("call", "f", 2, 1),
                                                        ("call", "h", 1, 1)))),
                         ("new", "u", ((1, 9),)), ("promise", "u", "s",
                                                   ("all", (("call", "i", 2, 1), ("call", "j", 2, 1)))))
        for which in (["a", "d"], ["b", "c"], ["a", "b"], ["e", "f"], ["f", "d"], ["a", "zz"], ["zz", "a"], ["i", "j"],
                      ["a", "i"],
                      ["f", "h", "e"], ["f", "h", "a"], ["yy", "zz"], ["b", "g"]):
            for into in ("x", which[0], which[1]):
                self.check_refused(house, NO_CALL, "melt", "t", which, into)
            self.check_refused(house, (Taken, {}), "melt", "t", which, "c" if "c" not in which else "a")
        self.assertIsNone(done(house, "melt", "t", ["h", "f"], "x"))
        # Into a call's name that is one of these, also where this call stands at another till: NoCall.
        self.check_refused(house, NO_CALL, "melt", "t", ["i", "x"], "i")
        self.check_refused(house, (Taken, {}), "melt", "t", ["x", "e"], "i")
        self.assertIsNone(done(house, "melt", "u", ["i", "j"], "j"))
        house.call("t", name="e", amount=1)
        self.assertIsNone(done(house, "melt", "t", ["x", "e"], "f"))

    def test_cut_is_refused_in_this_order(self):
        house = house_of(("new", "t", ((1, 14), (6, 1))), ("promise", "t", "p", ("call", "a", 4, 2)),
                         ("promise", "t", "q", ("within", 5, ("call", "b", 7, 1))), ("new", "u", ((1, 2),)),
                         ("promise", "u", "r", ("call", "c", 2, 1)))
        good = [("x", 3), ("y", 4)]
        self.assertIs(house.would("t", ("call", "x", 1, 1)), True)
        for handed, expected in (
                (("T", "B", [good]), NoName), (("t", "B", [good]), NoName), (("v", "zz", [("x", 7)]), NoParts),
                (("v", "b", good), NoTill), (("t", "zz", [("c", 1), ("x", 1)]), Taken),
                (("t", "b", [("c", 1), ("x", 1)]), Taken),
                (("t", "b", [("x", 1), ("x", 1)]), Taken), (("t", "b", [("b", 1), ("b", 6)]), Taken),
                (("t", "a", [("b", 1), ("x", 3)]), Taken), (("t", "c", [("c", 1), ("c", 1)]), Taken),
                (("t", "zz", [("zz", 1), ("zz", 1)]), Taken), (("t", "b", [("x", 3), ("y", 5)]), NoParts),
                (("t", "b", [("x", 3), ("y", 3)]), NoParts)):
            self.check_refused(house, (expected, {}), "cut", *handed)
        for handed in (("t", "zz", good), ("t", "c", [("c", 1), ("x", 1)]), ("t", "a", [("a", 1), ("x", 3)]),
                       ("t", "zz", [("zz", 1), ("x", 1)]),
                       ("t", "a", [("x", 9), ("y", 9)]), ("u", "b", good)):
            self.check_refused(house, NO_CALL, "cut", *handed)
        self.assertIsNone(done(house, "cut", "t", "b", [("b", 3), ("y", 4)]))

    def test_cut_may_be_unserved(self):
        house = house_of(("new", "t", ((1, 1), (2, 2))), ("promise", "t", "p", ("call", "a", 4, 1)))
        self.check_refused(house, unserved(2), "cut", "t", "a", [("x", 2), ("y", 2)])
        house.bring("t", ((1, 1),))
        self.assertIsNone(done(house, "cut", "t", "a", [("x", 2), ("y", 2)]))

    def test_melt_may_be_unserved_only_where_a_calls_stands_around_it(self):
        pair = ("all", (("call", "a", 2, 1), ("call", "b", 2, 1)))
        house = house_of(("new", "t", ((1, 3),)), ("promise", "t", "p", ("calls", 1, pair)))
        self.check_refused(house, unserved(None), "melt", "t", ["a", "b"], "a")
        house = house_of(("new", "t", ((1, 2), (4, 1))), ("promise", "t", "p", ("calls", 1, pair)))
        self.check_refused(house, unserved(4), "melt", "t", ["a", "b"], "a")
        house = house_of(("new", "t", ((1, 4),)), ("promise", "t", "p", ("within", 4, pair)))
        self.assertIsNone(done(house, "melt", "t", ["a", "b"], "a"))

    def test_cut_sums_stand_behind_too_great(self):
        calls = [("call", each, 1, 1) for each in "abcdefghijk"] + [("call", "l", 9, 1)]
        house = house_of(("new", "t", ((1, 99),)), ("promise", "t", "p", ("all", tuple(calls))))
        for others in ([("x", 4), ("y", 5)], [("x", 4), ("y", 4)], [("l", 1), ("y", 8)]):
            self.check_refused(house, (TooGreat, {}), "cut", "t", "l", others)
        house.lapse("t", name="a")
        self.check_refused(house, (NoParts, {}), "cut", "t", "l", [("x", 4), ("y", 4)])
        self.check_refused(house, (TooGreat, {}), "cut", "t", "l", [("x", 4), ("y", 4), ("z", 1)])
        self.assertIsNone(done(house, "cut", "t", "l", [("x", 4), ("y", 5)]))

    def test_cut_too_deep(self):
        house = house_of(("new", "t", ((1, 99),)), ("promise", "t", "p", within(5, ("call", "a", 9, 1))))
        self.check_refused(house, (TooGreat, {}), "cut", "t", "a", [("x", 4), ("y", 4)])
        house = house_of(("new", "t", ((1, 99),)), ("promise", "t", "p", within(4, ("all", (("call", "a", 9, 1), B)))))
        self.assertIsNone(done(house, "cut", "t", "a", [("x", 4), ("y", 5)]))
        house = house_of(("new", "t", ((1, 99),)), ("promise", "t", "p", within(4, ("call", "a", 9, 1))))
        self.assertIsNone(done(house, "cut", "t", "a", [("x", 4), ("y", 5)]))
        self.assertEqual(house.right_of("t"), within(4, ("all", (("call", "x", 4, 1), ("call", "y", 5, 1)))))


class TestBounds(HouseCase):
    def test_twelve_names_and_twelve_promises(self):
        letters = "abcdefghijklm"
        house = house_of(("new", "t", ((1, 99),)), *[("promise", "t", "p" + each,
                                                      ("call", each, 1, 1)) for each in letters[:12]])
        self.check_refused(house, (TooGreat, {}), "promise", "t", "pm", ("call", "m", 1, 1))
        other = house_of(("new", "t", ((1, 99),)), ("promise", "t", "p",
                                                    ("one", tuple(("call", each, 1, 1) for each in letters[:12]))))
        self.check_refused(other, (TooGreat, {}), "promise", "t", "q", ("call", "m", 1, 1))
        self.check_refused(other, (TooGreat, {}), "cut", "t", "a", [("x", 1), ("y", 1)])
        third = House()
        third.new("t", ((1, 99),))
        thirteen = ("one", tuple(("call", each, 1, 1) for each in letters))
        self.check_refused(third, (TooGreat, {}), "promise", "t", "p", thirteen)
        # Told ahead of Unserved.
        third.new("u", ())
        self.check_refused(third, (TooGreat, {}), "promise", "u", "p", thirteen)
        self.assertIs(third.would("t", thirteen), True)
        self.assertIs(house.would("t", thirteen), True)

    def test_two_tills_that_are_too_great_together(self):
        seven = [("promise", "t", "t" + each, ("call", "t" + each, 1, 1)) for each in "abcdefg"]
        six = [("promise", "u", "u" + each, ("call", "u" + each, 1, 1)) for each in "abcdef"]
        house = house_of(("new", "t", ((1, 9),)), ("new", "u", ((1, 9),)), *seven, *six)
        self.check_refused(house, (TooGreat, {}), "unite", "t", "u")
        house.end("u", name="ua")
        self.assertIsNone(done(house, "unite", "u", "t"))
        self.assertEqual([name for name, _ in house.promises_of("u")],
                         ["ub", "uc", "ud", "ue", "uf", "ta", "tb", "tc", "td", "te", "tf", "tg"])
        house.new("v", ())
        house.bring("v", ((1, 9),))
        house.promise("v", name="v", right=("call", "v", 1, 1))
        self.check_refused(house, (TooGreat, {}), "carry", "v", "u", "v")
        self.assertIsNone(done(house, "carry", "u", "v", "ub"))
        self.assertIsNone(done(house, "carry", "v", "u", "v"))

    def test_six_deep(self):
        deep, deeper = within(4, ("call", "a", 9, 1)), within(5, ("call", "b", 9, 1))
        house = house_of(("new", "t", ((1, 99),)), ("promise", "t", "p", deep),
                         ("promise", "t", "q", ("call", "c", 1, 1)),
                         ("new", "u", ((1, 99),)), ("promise", "u", "r", deeper), ("new", "v", ((1, 9),)))
        self.assertEqual(house.right_of("u"), deeper)
        self.check_refused(house, (TooGreat, {}), "promise", "u", "s", ("call", "d", 1, 1))
        self.check_refused(house, (TooGreat, {}), "promise", "t", "s", within(5, ("call", "d", 9, 1)))
        self.check_refused(house, (TooGreat, {}), "unite", "t", "u")
        self.check_refused(house, (TooGreat, {}), "carry", "u", "t", "r")
        self.check_refused(house, (TooGreat, {}), "carry", "t", "u", "q")
        self.assertIs(house.would("u", within(5, ("call", "b", 9, 1))), True)
        self.assertIs(house.would("t", within(5, ("call", "a", 9, 1))), True)
        # An all straight within the till's all lies no deeper than by itself.
        flat = ("all", (within(4, ("call", "d", 9, 1)), ("call", "e", 1, 1)))
        self.assertIsNone(done(house, "promise", "t", "s", flat))
        self.assertIsNone(done(house, "carry", "u", "v", "r"))

    def test_a_whole_of_a_million_millions(self):
        house = house_of(("new", "t", ((1, MANY),)), ("new", "u", ((1, 1),)), ("new", "v", ((MANY - 1, 1),)),
                         ("new", "w", ()))
        for deed in (("new", "x", ((1, MANY + 1),)), ("new", "x", ((1, 1), (MANY, 1))), ("bring", "t", ((1, 1),)),
                     ("unite", "t", "u"),
                     ("unite", "u", "t"), ("bring", "v", ((2, 1),)), ("bring", "w", ((MANY + 1, 1),))):
            self.check_refused(house, (TooGreat, {}), *deed)
        self.assertIsNone(done(house, "unite", "v", "u"))
        self.assertIsNone(done(house, "bring", "t", ()))
        self.assertIsNone(done(house, "unite", "t", "w"))
        self.assertEqual(house.flow(), (2 * MANY, 0, 0))
        self.assertEqual(house.tills(), ["t", "v"])

    def test_part_of_what_is_not_small(self):
        house = house_of(("new", "t", ((1, 201),)), ("promise", "t", "p", A))
        for worth, which in ((10, ["p"]), (0, []), (1, ["p"]), (MANY, [])):
            self.check_refused(house, (TooGreat, {}), "part", "t", "u", worth, which)
        self.check_refused(house, (NoPromise, {}), "part", "t", "u", 10, ["q"])
        house.lend("t", ((1, 1),))
        self.assertIsNone(done(house, "part", "t", "u", 10, ["p"]))


class TestPart(HouseCase):
    def test_stuck(self):
        house = house_of(("new", "t", ((1, 10), (3, 2), (6, 1))), ("promise", "t", "p", ("call", "a", 4, 1)),
                         ("promise", "t", "q", ("call", "b", 3, 2)))
        for worth, which in ((3, ["p"]), (17, ["p"]), (5, ["q"]), (19, ["q"]), (9, ["p", "q"]), (23, ["p"]),
                             (22, ["p"]), (MANY, []),
                             (13, []), (23, ["p", "q"])):
            self.check_refused(house, (Stuck, {"worth": None}), "part", "t", "u", worth, which)
        house = house_of(("new", "t", ((1, 2), (3, 2))), ("promise", "t", "p", ("call", "a", 2, 1)))
        self.check_refused(house, (Stuck, {"worth": 3}), "part", "t", "u", 4, ["p"])
        self.check_refused(house, (Stuck, {"worth": 3}), "part", "t", "u", 4, [])
        self.assertIsNone(done(house, "part", "t", "u", 5, ["p"]))
        self.assertEqual((house.pile_of("t"), house.pile_of("u")), (((3, 1),), ((1, 2), (3, 1))))

    def test_promises_go_in_the_lists_order(self):
        house = house_of(("new", "t", ((1, 30),)), *[("promise", "t", name, ("call", name, 2, 1)) for name in "pqrs"])
        self.assertIsNone(done(house, "part", "t", "u", 9, ["s", "p", "r"]))
        self.assertEqual(house.promises_of("t"), [("q", ("call", "q", 2, 1))])
        self.assertEqual([name for name, _ in house.promises_of("u")], ["s", "p", "r"])
        self.assertEqual(house.right_of("u"), ("all", tuple(("call", name, 2, 1) for name in "spr")))
        self.assertIsNone(done(house, "part", "t", "v", 0, []))
        self.assertEqual((house.pile_of("v"), house.promises_of("v")), ((), []))
        self.assertIsNone(done(house, "part", "t", "w", 21, ["q"]))
        self.assertEqual((house.pile_of("t"), house.promises_of("t"), house.flow()), ((), [], (30, 0, 0)))
        self.assertEqual(house.tills(), ["t", "u", "v", "w"])

    def test_what_is_no_list_of_unlike_promises(self):
        house = house_of(*BEGUN)
        for which in (None, True, 0, "", "p", "pq", (), ("p",), ["p", "p"], ["P"], ["s"], ["r"], ["p", "r"], [None],
                      [["p"]], [("p",)],
                      [0], [""], [nested(100000)], ["p", nested(100000, list)], nested(100000), nested(100000, list),
                      ["q", "p", "q"]):
            self.check_refused(house, (NoPromise, {}), "part", "a", "d", 15, which)
        self.check_refused(house, (NoPromise, {}), "part", "c", "d", 15, ["p"])


class TestByHand(HouseCase):
    TILLS, PROMISES = ("a", "b", "c", "d"), tuple("pqrstuvw")
    CALLS = tuple("efghijklmnopq")

    def any_deed(self, rand, hand):
        """A deed by chance, with names that stand, stand twice or nowhere."""
        def a_name(names):
            return rand.choice(names)

        there = sorted(hand.tills) or ["a"]
        bound = [each for each in there if each in hand.tills and hand.tills[each][1]] or there
        till, other = (a_name(each if rand.random() < 0.9 else self.TILLS) for each in (there, there))
        till = a_name(bound) if rand.random() < 0.6 else till
        calls = hand.call_names() or ["e"]
        rows = hand.tills.get(till, ((), []))[1]
        own_calls = names_in(all_of_rows(rows)) or calls
        name = a_name(own_calls) if rand.random() < 0.8 else a_name(self.CALLS)
        promise = a_name([row[0] for row in rows] or self.PROMISES) if rand.random() < 0.8 else a_name(self.PROMISES)
        pile = ((1, rand.randint(1, 14)), (rand.randint(2, 6), rand.randint(1, 4)), (9, 1))[:rand.randint(0, 3)]
        pile = pile if rand.random() < 0.7 else pile[1:]
        free = [each for each in self.CALLS if each not in calls] if rand.random() < 0.85 else list(self.CALLS)
        right = any_right(rand, rand.randint(1, 4), rand.sample(free, len(free)), 6, 2)
        deed = rand.choice(("new", "bring", "bring", "bring", "promise", "promise", "promise", "carry", "carry",
                            "carry", "call",
                            "call", "lapse", "end", "would", "cut", "cut", "cut", "melt", "melt", "break_coin", "lend",
                            "lend", "unite", "part"))
        if deed in ("new", "bring", "lend"):
            if deed == "lend" and till in hand.tills and rand.random() < 0.7:
                own = hand.tills[till][0]
                pile = tuple((worth, rand.randint(1, many)) for worth, many in own if rand.random() < 0.6)
            return (deed, till, pile)
        if deed == "promise":
            free_promises = [each for each in self.PROMISES if each not in hand.promise_names()]
            return (deed, till, a_name(free_promises or self.PROMISES) if rand.random() < 0.8 else promise, right)
        if deed == "call":
            at = hand.row_with(till, name) if till in hand.tills else None
            greatest = may(rows[at][1], name) if at is not None else 3
            return (deed, till, name, rand.randint(1, greatest + (rand.random() < 0.2)))
        if deed in ("lapse", "end"):
            return (deed, till, name if deed == "lapse" else promise)
        if deed == "would":
            return (deed, till, right)
        if deed == "cut":
            mosts = [call[2] for _, row in rows for call in self.calls_in(row) if call[1] == name]
            total = max(2, mosts[0] if mosts else 4) + (rand.random() < 0.15)
            first = rand.randint(1, total - 1)
            names = rand.sample(free + [name], 2) if len(free) > 1 else [name, name]
            return (deed, till, name, [(names[0], first), (names[1], total - first)])
        if deed == "melt":
            alls = [part for _, row in rows for part in self.alls_in(row)]
            parts = rand.choice(alls)[1] if alls else []
            chosen = [part[1] for part in parts if part[0] == "call" and (part[3] == 1 or rand.random() < 0.2)]
            which = chosen[:rand.randint(2, 3)] if len(chosen) > 1 else rand.sample(own_calls + ["zz"], 2)
            rand.shuffle(which)
            return (deed, till, which, a_name(which + free + [name, a_name(calls)]))
        if deed == "break_coin":
            worths = [worth for worth, _ in hand.tills.get(till, ((), []))[0]] + [4]
            worth = max(2, a_name(worths))
            first = rand.randint(1, worth - 1)
            return (deed, till, worth, [first, worth - first] if rand.random() < 0.9 else [first, worth])
        if deed == "part":
            own = whole(hand.tills[till][0]) if till in hand.tills else 9
            which = [row[0] for row in rows if rand.random() < 0.5]
            rand.shuffle(which)
            return (deed, till, a_name(self.TILLS), rand.randint(0, own + 1),
                    which if rand.random() < 0.9 else which + [promise, "zz"][:rand.randint(1, 2)])
        return (deed, till, other) if deed == "unite" else (deed, till, other, promise)

    def calls_in(self, right):
        return [right] if right[0] == "call" else [call for part in self.parts(right) for call in self.calls_in(part)]

    def alls_in(self, right):
        inner = [each for part in self.parts(right) for each in self.alls_in(part)]
        return [right] + inner if right[0] == "all" else inner

    def parts(self, right):
        return right[1] if right[0] in ("all", "one") else right[2:] if right[0] in ("within", "calls") else ()

    def test_rows_of_deeds_by_chance(self):
        ends = {}
        for seed in range(100):
            rand = random.Random(seed)
            house, hand = House(), HandHouse()
            for _ in range(120):
                deed = self.any_deed(rand, hand)
                before = standing(house)
                answer = done(house, *deed)
                with self.subTest(seed=seed, deed=deed):
                    self.assertEqual(answer, getattr(hand, deed[0])(*deed[1:]))
                    self.check_alike(house, hand)
                    refused = isinstance(answer, tuple) and answer != () and isinstance(answer[0], type)
                    if refused or deed[0] == "would":
                        self.assertEqual(standing(house), before)
                end = (deed[0], answer[0] if refused else "done")
                ends[end] = ends.get(end, 0) + 1
        every = [(deed, "done") for deed in ARGUMENTS] + [
            ("new", Taken), ("bring", NoTill), ("promise", NoTill), ("promise", Taken), ("promise", UNSERVED),
            ("call", NoTill),
            ("call", NoCall), ("lapse", NoTill), ("lapse", NoCall), ("end", NoTill), ("end", NoPromise),
            ("would", NoTill),
            ("cut", NoTill), ("cut", Taken), ("cut", NoCall), ("cut", NoParts), ("cut", UNSERVED), ("melt", NoTill),
            ("melt", Taken),
            ("melt", NoCall), ("break_coin", NoTill), ("break_coin", NoParts), ("break_coin", NoCoins),
            ("lend", NoTill),
            ("lend", NoCoins), ("lend", UNSERVED), ("unite", NoTill), ("part", NoTill), ("part", Taken),
            ("part", NoPromise),
            ("part", Stuck), ("carry", NoTill), ("carry", NoPromise), ("carry", UNSERVED)]
        self.assertEqual([end for end in every if ends.get(end, 0) < 5], [])

    def test_what_would_told_true_stays_true(self):
        stayed = 0
        for seed in range(100, 125):
            rand = random.Random(seed)
            house, hand = House(), HandHouse()
            true = {}
            for _ in range(80):
                deed = self.any_deed(rand, hand)
                answer = done(house, *deed)
                getattr(hand, deed[0])(*deed[1:])
                if not (isinstance(answer, tuple) and answer and isinstance(answer[0], type)):
                    if deed[0] in ("promise", "cut", "melt", "lend", "part", "carry"):
                        for till in deed[1:3]:
                            true.pop(till if isinstance(till, str) else None, None)
                    if deed[0] == "unite":
                        true.pop(deed[2], None)
                    if deed[0] == "new":
                        true[deed[1]] = []
                for till in house.tills():
                    right = any_right(rand, 3, list(self.CALLS), 4, 2)
                    if house.would(till, right):
                        true.setdefault(till, []).append(right)
                for till in house.tills():
                    for right in true.get(till, []):
                        stayed += 1
                        self.assertIs(house.would(till, right), True)
        self.assertGreater(stayed, 5000)

    def test_each_call_of_each_run_is_paid_at_once_to_the_very_end(self):
        for seed in range(40):
            rand = random.Random(seed)
            right = any_right(rand, 5, list("abcdefghijkl"), 9, 3)
            total = sum(times * most for _, _, most, times in self.calls_in(right))
            pile = ((1, max(1, total // 2)), (3, 4), (7, total // 7 + 1))
            house = house_of(("new", "t", pile))
            if not serves(pile, right):
                self.check_refused(house, done(house, "promise", "t", "p", right), "promise", "t", "p", right)
                continue
            house.promise("t", name="p", right=right)
            while house.right_of("t") != NONE:
                left = house.right_of("t")
                name = rand.choice(names_in(left))
                amount = rand.randint(1, may(left, name))
                before = house.pile_of("t")
                self.assertEqual(done(house, "call", "t", name, amount), pay(before, amount))
                self.assertIs(serves(house.pile_of("t"), house.right_of("t")), True)
            self.assertEqual(house.flow()[0] - house.flow()[1], whole(house.pile_of("t")))
            self.assertEqual(sum(amount for _, amount in house.seen()), house.flow()[1])


UNSERVED = unserved(None)[0]


class TestRefusals(HouseCase):
    """Each refusal in its order: arguments wrong in each way, at each place, held against the house by hand."""

    FULL = BEGUN + (("new", "d", ((1, 150), (2, 40))), ("promise", "d", "s",
                                                        ("all",
                                                         tuple(("call", "d" + each, 3, 1) for each in "abcdefghijkl"))),
                    ("new", "e", ((1, 60), (7, 3))), ("promise", "e", "t", within(5, ("call", "z", 9, 1))),
                    ("new", "f", ((1, MANY),)), ("promise", "f", "u",
                                                 ("all", (("call", "fa", 3, 1), ("call", "fb", 9, 2)))))
    SOME_NAMES = (None, "", "zz", "a", "c", "d", "e")
    CHOICES = {
        "new": ((None, "A", "a", "zz"), (None, (), ((1, 5),), ((1, MANY + 1),), [(1, 1)])),
        "bring": ((0, "a", "f", "zz"), (None, (), ((1, 5),), ((1, MANY + 1),), ((1, 1), (1, 1)))),
        "promise": ((None, "zz", "a", "d", "e"), ("", "p", "u", "free"), (
            None, ("call", "x", 0, 1), NONE, ("call", "x", 1, 1), ("call", "a", 1, 1), ("call", "x", 999, 1),
            ("one", (B, ("call", "x", 1, 1))),
            within(5, ("call", "x", 1, 1)), within(5, ("call", "x", 999, 1)), within(5, ("call", "z", 1, 1)),
            ("all", ()))),
        "call": ((None, "zz", "a", "b", "f"), (None, "zz", "a", "b", "fb", "d"),
                 (None, 0, True, 1, 3, 4, 5, 6, 9, 10, MANY)),
        "lapse": ((None, "zz", "a", "b"), ("A", "zz", "a", "d", "fa")),
        "end": ((None, "zz", "a", "b"), ("A", "zz", "a", "p", "r", "u")),
        "would": ((None, "zz", "a", "e", "d"), (None, A, ("call", "zz", 99, 1), within(5, A), ("call", "a", 0, 1))),
        "cut": ((None, "zz", "a", "b", "d", "e"), (1, "zz", "a", "b", "e", "da", "z"), (
            None, [], [("x", 3)], (("x", 1), ("y", 2)), [("x", 1), ("y", 2)], [("x", 1), ("y", 0)], [("x", 1), ("", 2)],
            [("x", 1), ("x", 2)], [("b", 1), ("b", 2)], [("b", 1), ("e", 2)], [("fa", 1), ("y", 2)],
            [("b", 1), ("y", 2)], [("x", 1), ("y", 1)],
            [("e", 1), ("y", 1)], [("x", 4), ("z", 5)], [("x", 4), ("y", 5)], [("a", 2), ("y", 3)],
            [["x", 1], ("y", 2)], [("x", True), ("y", 2)])),
        "melt": ((None, "zz", "a", "b", "d", "e"), (
            None, [], ["b"], ["b", "b"], ("b", "c"), ["b", "c"], ["c", "b"], ["d", "e"], ["e", "f"], ["d", "g"],
            ["da", "dc"], ["zz", "yy"],
            ["fa", "fb"], ["b", ""], ["b", None], ["a", "b"], ["b", ["c"]]), (None, "x", "b", "fa", "zz", "da", "e")),
        "break_coin": ((None, "zz", "a", "c"), (None, 0, True, 1, 2, 5, 10), (
            None, [], [5], [2, 3], (2, 3), [1, 1], [5, 5], [0, 5], [True, 4], [9, 1], [2, "3"])),
        "lend": ((None, "zz", "a", "b", "c"), (None, (), ((1, 1),), ((1, 12),), ((2, 4),), ((1, 99),), ((4, 1),),
                                               ((5, 4), (10, 2)), ((1, 20), (5, 3)))),
        "unite": (SOME_NAMES + ("f",), SOME_NAMES + ("f",)),
        "part": (SOME_NAMES, SOME_NAMES, (None, -1, True, 0, 10, 35, 999),
                 (None, [], ["p"], ["q", "p"], ["p", "p"], ["r"], ("p",), [None])),
        "carry": (SOME_NAMES, SOME_NAMES + ("f",), (None, "", "zz", "p", "q", "s", "t"))}

    def test_each_row_of_choices(self):
        for deed, choices in self.CHOICES.items():
            answers = {}
            house, before = house_of(*self.FULL), None
            before = standing(house)
            for handed in itertools.product(*choices):
                hand = hand_of(*self.FULL)
                answer = done(house, deed, *handed)
                with self.subTest(deed=deed, handed=handed):
                    self.assertEqual(answer, getattr(hand, deed)(*handed))
                    self.assertEqual(standing(house), hand_standing(hand))
                if standing(house) != before:
                    house = house_of(*self.FULL)
                answers[repr(answer)[:40]] = True
            self.assertGreater(len(answers), 3)

    def test_what_is_no_such_thing(self):
        house = house_of(*BEGUN)
        for bad in NO_NAMES:
            for deed in (("new", bad, ()), ("bring", bad, ()), ("promise", bad, "s", NONE),
                         ("promise", "a", bad, NONE), ("call", bad, "a", 1),
                         ("call", "a", bad, 1), ("lapse", bad, "a"), ("lapse", "a", bad), ("end", bad, "p"),
                         ("end", "a", bad), ("would", bad, A),
                         ("cut", bad, "b", [("x", 1), ("y", 2)]), ("cut", "a", bad, [("x", 1), ("y", 2)]),
                         ("melt", bad, ["b", "c"], "x"),
                         ("melt", "a", ["b", "c"], bad), ("break_coin", bad, 5, [2, 3]), ("lend", bad, ()),
                         ("unite", bad, "b"),
                         ("unite", "a", bad), ("part", bad, "d", 0, []), ("part", "a", bad, 0, []),
                         ("carry", bad, "b", "p"),
                         ("carry", "a", bad, "p"), ("carry", "a", "b", bad)):
                self.assertEqual(done(house, *deed), (NoName, {}))
            for asked in (house.pile_of, house.promises_of, house.right_of):
                self.assertEqual(told(asked, bad), (NoName, {}))
                self.assertEqual(told(asked, till=bad), (NoName, {}))
            self.assertEqual(done(house, "cut", "a", "b", [("x", 1), (bad, 2)]), (NoParts, {}))
            self.assertEqual(done(house, "melt", "a", ["b", bad], "x"), (NoParts, {}))
            self.assertEqual(done(house, "part", "a", "d", 15, [bad]), (NoPromise, {}))
        for bad in NO_PILES:
            for deed in ("new", "bring", "lend"):
                self.assertEqual(done(house, deed, "a" if deed != "new" else "d", bad), (NoPile, {}))
                self.assertEqual(done(house, deed, "zz", bad), (NoPile, {}))
        for bad in NO_RIGHTS:
            self.assertEqual(done(house, "promise", "zz", "p", bad), (NoRight, {}))
            self.assertEqual(done(house, "would", "zz", bad), (NoRight, {}))
        for bad in NO_NUMBERS_FROM_1:
            self.assertEqual(done(house, "call", "zz", "a", bad), (NoNumber, {}))
            self.assertEqual(done(house, "break_coin", "zz", bad, [2, 3]), (NoNumber, {}))
            self.assertEqual(done(house, "break_coin", "a", 5, [2, 3, bad]), (NoParts, {}))
            self.assertEqual(done(house, "cut", "a", "b", [("x", 3), ("y", bad)]), (NoParts, {}))
        for bad in NO_NUMBERS:
            self.assertEqual(done(house, "part", "zz", "a", bad, []), (NoNumber, {}))
        for bad in (None, (), "ab", nested(100000), nested(100000, list), [nested(100000), nested(100000)], [("x", 1)],
                    [("x", 1), ("y",)],
                    [("x", 1), ("y", 2, 3)], [("x", 1), 2], [("x", 1), "y2"], {"x": 1, "y": 2}):
            self.assertEqual(done(house, "cut", "zz", "zz", bad), (NoParts, {}))
            self.assertEqual(done(house, "melt", "zz", bad, "x"), (NoParts, {}))
            self.assertEqual(done(house, "break_coin", "zz", 5, bad), (NoParts, {}))
        for asked in (house.pile_of, house.promises_of, house.right_of):
            self.assertEqual(told(asked, "zz"), (NoTill, {}))
        self.assertEqual(standing(house), standing(house_of(*BEGUN)))

    def test_calls_that_may_not_be_made(self):
        house = house_of(*BEGUN)
        for till, name, amount in (("a", "a", 6), ("a", "d", 1), ("b", "a", 1), ("c", "a", 1), ("a", "zz", 1),
                                   ("b", "g", 7)):
            self.check_refused(house, NO_CALL, "call", till, name, amount)
        house.call("b", name="g", amount=1)
        self.check_refused(house, NO_CALL, "call", "b", "d", 1)
        self.check_refused(house, NO_CALL, "lapse", "b", "g")
        self.check_refused(house, NO_CALL, "lapse", "a", "d")


class TestWould(HouseCase):
    def test_whatever_its_names(self):
        house = house_of(("new", "t", ((1, 9), (5, 2))), ("promise", "t", "p", A))
        for right, expected in ((NONE, True), (("call", "a", 1, 1), True), (("call", "a", 2, 1), False),
                                (("call", "x", 1, 2), False),
                                (("within", 1, within(3, A)), True), (("call", "x", 10, 1), False),
                                (("call", "x", 1, 1), True)):
            self.assertIs(house.would("t", right), expected)
            self.assertEqual(house.promises_of("t"), [("p", A)])

    def test_as_a_promise_would_be_served(self):
        rand = random.Random(7)
        for _ in range(300):
            pile = ((1, rand.randint(1, 20)), (rand.randint(2, 9), rand.randint(1, 3)))
            house = house_of(("new", "t", pile))
            first, second = (any_right(rand, 3, list("abcd"), 5, 2) for _ in range(2))
            if house.would("t", first):
                self.assertIsNone(done(house, "promise", "t", "p", first))
                own = renamed(second, "z")
                would = house.would("t", second)
                self.assertIs(would, house.would("t", own))
                if trim(second) != NONE:
                    self.assertEqual(done(house, "promise", "t", "q", own) is None, would)


class TestSoon(HouseCase):
    def test_many_tills_and_deeds(self):
        def work():
            house = House()
            letters = "abcdefghijklmnopqrst"
            names = [first + second for first in letters for second in letters]
            for name in names:
                house.new(name, ((1, 50), (9, 3)))
                house.promise(name, name=name, right=("all", (("call", name, 4, 3), ("call", "z" + name, 9, 2))))
            for name in names:
                house.call(name, name=name, amount=4)
                house.lapse(name, name="z" + name)
            self.assertEqual(len(house.seen()), len(names))

        self.assertLess(seconds(work, 2), 400 * seconds(count_up, 3))

    def test_great_tills(self):
        choices = ("calls", 59, ("all", tuple(("one", tuple(
            ("call", "abcdefghijkl"[3 * at + way], 10 ** (5 - way),
             20 ** way) for way in range(3))) for at in range(4))))
        pile = ((1, 10 ** 10), (10 ** 4, 10 ** 6))

        def work():
            house = House()
            house.new("t", pile)
            house.promise("t", name="p", right=choices)
            house.would("t", choices)
            for _ in range(5):
                house.call("t", name="c", amount=1000)
            house.lend("t", ((1, 5),))

        self.assertLess(seconds(work, 2), 40 * seconds(count_up, 3))


if __name__ == "__main__":
    unittest.main()
