"""Things that several tests hand in, and ways of handing them in."""

import copy
import itertools
import time

from blindtill.errors import Unserved


def nested(depth, kind=tuple):
    """A tuple or list that lies so deep that nothing that goes all through it comes back."""
    thing = kind()
    for _ in range(depth):
        thing = kind([thing])
    return thing


def within(depth, right):
    """The right within so many withins."""
    for _ in range(depth):
        right = ("within", 9, right)
    return right


NO_TEXTS_OR_NUMBERS = (None, (), [], ("a",), ["a"], (1,), [1], nested(100000), nested(100000, list))

NO_NAMES = NO_TEXTS_OR_NUMBERS + (
    True, False, 0, 1, "", "abcdefghi", "a" * 100000, "A", "aB", "a1", "a b", " a", "a ", "a\n", "a_", "a-b",
    "\u00e9", "a\u0301", "\u00df", "\u0430", "`", "{", "a\x00")

NO_NUMBERS = NO_TEXTS_OR_NUMBERS + (True, False, "", "1", "a", -1, -10 ** 12, -10 ** 30)

NO_NUMBERS_FROM_1 = NO_NUMBERS + (0,)

NO_PILES = (
    None, True, False, 0, 1, 7, "", "ab", "1", [], [(1, 1)], [1, 1], (1, 1), (1,), ("ab",), ("12",), (None,), ((),),
    ((1,),), ((1, 1, 1),), ([1, 1],), (((1, 1),),), ((1, 1), 2), ((1, 1), None), ((1, 1), [2, 1]), ((1, 1), (2,)),
    ((1, 1), (2, 1, 1)), ((2, 1), (1, 1)), ((1, 1), (1, 1)), ((1, 1), (3, 1), (2, 1)), ((1, 1), (2, 1), (2, 2)),
    nested(100000), nested(100000, list), (nested(100000), 1)) + tuple(
    ((bad, 1),) for bad in NO_NUMBERS_FROM_1) + tuple(
    ((1, bad),) for bad in NO_NUMBERS_FROM_1) + tuple(
    ((1, 1), (bad, 1), (3, 1)) for bad in NO_NUMBERS_FROM_1) + tuple(
    ((1, 1), (2, bad), (3, 1)) for bad in NO_NUMBERS_FROM_1)

A = ("call", "a", 5, 2)
B = ("call", "b", 3, 1)
C = ("call", "c", 4, 3)

NO_RIGHTS = (
    None, True, False, 0, 1, "", "none", "call", (), [], ["none"], [("none",)], (("none",),), (None,), (1,), ("some",),
    ("None",), ("none", ()), ("none", 1), ("none", None), ("none", ("none",)),
    ("call",), ("call", "a"), ("call", "a", 5), ("call", "a", 5, 2, 1), ["call", "a", 5, 2], ("a", 5, 2),
    ("call", 5, "a", 2), ("call", ("a", 5, 2)),
    ([],), (["none"],), (["call"], "a", 5, 2), (["all"], (A,)), (["within"], 3, A), (("none",), ()), ([A], [B]),
    (True, A),
    ("all",), ("all", A), ("all", A, B), ("all", (A, B), ()), ("all", [A, B]), ["all", (A, B)], ("all", None),
    ("all", "ab"), ("all", 2), ("all", (A, None)), ("all", (A, ())), ("all", (A, "none")), ("all", (A, list(B))),
    ("one",), ("one", A), ("one", A, B), ("one", (A, B), ()), ("one", [A, B]), ["one", (A, B)], ("one", None),
    ("one", "ab"), ("one", 2), ("one", (A, None)), ("one", (A, ())), ("one", (A, "none")), ("one", (A, list(B))),
    ("within",), ("within", 3), ("within", A), ("within", 3, A, B), ("within", A, 3), ["within", 3, A],
    ("within", 3, (A,)), ("within", 3, list(A)), ("within", 3, None), ("within", 3, "none"), ("within", 3, ()),
    ("calls",), ("calls", 3), ("calls", A), ("calls", 3, A, B), ("calls", A, 3), ["calls", 3, A],
    ("calls", 3, (A,)), ("calls", 3, list(A)), ("calls", 3, None), ("calls", 3, "none"), ("calls", 3, ()),
    ("all", (A, A)), ("one", (A, A)), ("all", (A, ("call", "a", 1, 1))), ("one", (("call", "a", 1, 1), A)),
    ("all", (A, B, ("one", (C, ("calls", 2, ("within", 9, ("call", "a", 7, 1))))))),
    ("one", (("within", 2, ("all", (B, A))), C, ("calls", 1, ("one", (("none",), A))))),
    ("within", 3, ("all", (B, ("one", (B,))))), ("calls", 3, ("one", (("all", (B,)), B))),
    nested(100000), nested(100000, list), (nested(100000),), ("none", nested(100000)), ("all", nested(100000)),
    ("all", (nested(100000),)), ("one", (A, nested(100000))), ("within", 3, nested(100000)),
    ("call", nested(100000), 1, 1), (nested(100000), A), within(6, A), within(6, ("none",)), within(6, ("all", ())),
    within(100000, A), ("all", (B, within(5, A))), ("one", (B, within(5, A))), ("calls", 3, within(5, A))) + tuple(
    ("call", bad, 5, 2) for bad in NO_NAMES) + tuple(
    ("call", "a", bad, 2) for bad in NO_NUMBERS_FROM_1) + tuple(
    ("call", "a", 5, bad) for bad in NO_NUMBERS_FROM_1) + tuple(
    ("within", bad, A) for bad in NO_NUMBERS_FROM_1) + tuple(
    ("calls", bad, A) for bad in NO_NUMBERS_FROM_1)

# Each of these may stand in each of the forms, at any of their places.
SOME_NO_RIGHTS = (None, True, 1, "none", (), ["none"], ("none", 1), ("call", "a", 0, 1), ("call", "A", 1, 1),
                  ("all", [A]), ("one", (A, None)), ("within", True, A), ("calls", 0, A))

NO_CALLS = (
    None, True, 0, 1, "", "a", "a1", (), ("a",), (1,), ("a", 1, 1), ["a", 1], [("a", 1)], (("a", 1),), (1, "a"),
    ("call", "a", 1, 1), nested(100000), nested(100000, list)) + tuple(
    (bad, 1) for bad in NO_NAMES) + tuple(
    ("a", bad) for bad in NO_NUMBERS_FROM_1)

NO_LISTS = (None, True, False, 0, 1, "", "a", (), ("a", 1), (("a", 1),), nested(100000))


def is_deep(thing):
    """Whether a thing lies too deep to be copied or compared by Python's own means."""
    depth = 0
    layer = [thing]
    while layer:
        depth += 1
        layer = [inner for outer in layer if isinstance(outer, (tuple, list)) for inner in outer]
        if depth > 50:
            return True
    return False


def told(asked, *places, **named):
    """What is told, or the refusal's class and fields, and whether what was handed in is the same behind it."""
    handed = list(places) + list(named.values())
    flat = [thing for thing in handed if not is_deep(thing)]
    kept = copy.deepcopy(flat)
    try:
        answer = asked(*places, **named)
    except ValueError as refusal:
        answer = (refusal.__class__, vars(refusal))
    assert repr(flat) == repr(kept), "what was handed in was changed"
    return answer


def told_each_way(asked, places, words, **by_name):
    """What is told of arguments by their places, of the first of them so, and of all by their names."""
    answers = []
    for by_place in range(len(words) + 1):
        named = dict(zip(words[by_place:], places[by_place:]), **by_name)
        answers.append(told(asked, *places[:by_place], **named))
    return answers


def seconds(work, rounds=7):
    """How long some work takes of the processor's time, where nothing else disturbs it."""
    taken = []
    for _ in range(rounds):
        begun = time.process_time()
        work()
        taken.append(time.process_time() - begun)
    return min(taken)


def count_up():
    """A plain loop by which other work is measured, however quick the machine is."""
    total = 0
    for number in range(100000):
        total += number
    return total


def one_or_more_wrong(goods, bads):
    """Each row of arguments with wrong ones at one place or more, and the first such place."""
    for are_wrong in itertools.product((False, True), repeat=len(goods)):
        if any(are_wrong):
            choices = [bads[at] if wrong else (goods[at],) for at, wrong in enumerate(are_wrong)]
            for row in itertools.product(*choices):
                yield row, are_wrong.index(True)


def first_wrong(asked, words, goods, bads, refusals):
    """For each row with wrong arguments what is told of it each way, and the refusal of the first wrong one."""
    for row, place in one_or_more_wrong(goods, bads):
        yield told_each_way(asked, row, words), [(refusals[place], {})] * (len(words) + 1)


def unserved(worth):
    return (Unserved, {"worth": worth})
