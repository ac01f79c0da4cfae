"""Tills made of fewest coins, and mended by fewest brought or broken ones.

SUMS is a list: at each place c what a till must have in coins less than c before a coin of c may lie there, the last
one also what it must have in all. They never fall.
"""

from blindtill.checks import check_number, is_number
from blindtill.errors import NoParts, NoWorths
from blindtill.most import check_small_right, sums_below
from blindtill.piles import check_pile, check_small_pile, coins_of, gathered, put, sum_of, take
from blindtill.rights import check_right
from blindtill.serving import bounds_of, check_meets, needs_of


def fewest(right, *, worths=None):
    """A pile of fewest coins, of these worths alone where they are told, that serves the right."""
    check_right(right)
    if worths is not None and not _are_worths(worths):
        raise NoWorths()
    check_small_right(right)
    return fewest_for(sums_below(right), worths)


def _are_worths(thing):
    """Whether this is a rising list of unlike whole numbers of which the first is 1."""
    if not isinstance(thing, list) or not thing or not all([is_number(worth, 1) for worth in thing]):
        return False
    return thing[0] == 1 and all([one < other for one, other in zip(thing, thing[1:])])


def fewest_for(sums, worths):
    """A pile of fewest coins, of these worths or, where they are None, of any, that has these sums."""
    # No coin that is put there is of a worth behind the end of the sums.
    usable = list(range(1, len(sums))) if worths is None else [worth for worth in worths if worth < len(sums)]
    coins = []
    total = 0
    while total < sums[-1]:
        fitting = _greatest_fitting(sums, total)
        coin = max([worth for worth in usable if worth <= fitting])
        coins.append(coin)
        total += coin
    return gathered(coins)


def _greatest_fitting(sums, total):
    """The greatest worth of a coin that may lie behind coins of this total, which is less than the last sum."""
    return len([needed for needed in sums if needed <= total]) - 1


def lacking(pile, right):
    """The least worth in all that coins must have which, put to the pile, let it serve the right."""
    check_pile(pile)
    check_right(right)
    needs = needs_of(pile, right)
    return max([0] + [needs[below] - bound for below, bound in bounds_of(pile)])


def to_bring(pile, right):
    """A pile of fewest coins that, put to the pile, let it serve the right."""
    _check_small(pile, right)
    sums = sums_below(right)
    brought = []
    total = 0
    for coin in coins_of(pile):
        total += _bring(sums, total, coin, brought) + coin
    _bring(sums, total, None, brought)
    return gathered(brought)


def _bring(sums, total, coin, brought):
    """Add to brought the coins that must come behind this total, ahead of the coin or, where it is None, at the end.

    It tells their sum.
    """
    come = 0
    while total + come < sums[-1]:
        fitting = _greatest_fitting(sums, total + come)
        if coin is not None and coin <= fitting:
            break
        brought.append(fitting)
        come += fitting
    return come


def _check_small(pile, right):
    """Refuse what is no pile and no right, and what isn't small."""
    check_pile(pile)
    check_right(right)
    check_small_pile(pile)
    check_small_right(right)


def broken_up(pile, worth, parts):
    """The pile with one coin of the worth broken into coins of the parts."""
    check_pile(pile)
    check_number(worth, 1)
    check_broken_parts(parts, worth)
    return put(take(pile, ((worth, 1),)), gathered(parts))


def check_broken_parts(thing, worth):
    """Refuse what is no list of two or more whole numbers from 1 on that sum to the worth."""
    if not isinstance(thing, list) or len(thing) < 2:
        raise NoParts()
    if not all([is_number(part, 1) for part in thing]) or sum(thing) != worth:
        raise NoParts()


def to_break(pile, right):
    """A pile of fewest coins of the pile that, each broken into coins of 1, let it serve the right."""
    _check_small(pile, right)
    needs = needs_of(pile, right)
    if sum_of(pile) < needs[None]:
        check_meets(pile, needs)
    broken = []
    # What is broken is the greatest, so it adds to what each coin that is left has below it.
    for coin in reversed(coins_of(pile)):
        left = take(pile, gathered(broken))
        if all([needs[below] <= bound + sum(broken) for below, bound in bounds_of(left)]):
            break
        broken.append(coin)
    return gathered(broken)


def must_stay(pile, right):
    """A pile of fewest coins of the pile that serves the right."""
    _check_small(pile, right)
    check_meets(pile, needs_of(pile, right))
    sums = sums_below(right)
    coins = coins_of(pile)
    kept = []
    while sum(kept) < sums[-1]:
        fitting = _greatest_fitting(sums, sum(kept))
        # The pile serves the right, so that a coin that fits is always there.
        coin = max([each for each in coins if each <= fitting])
        coins.remove(coin)
        kept.append(coin)
    return gathered(kept)
