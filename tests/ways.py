"""Ways of paying, gone through one by one, and the piles and the lists of calls to go through."""

import functools

from blindtill.piles import payings, put, take
from blindtill.rights import behind
from runs import next_calls


def lists_of(total, greatest):
    """All falling lists of whole numbers from 1 to greatest that sum to the total."""
    if total == 0:
        return [[]]
    return [[first] + rest for first in range(min(total, greatest), 0, -1) for rest in lists_of(total - first, first)]


def pile_of(coins):
    return tuple((worth, coins.count(worth)) for worth in sorted(set(coins)))


def piles_up_to(total):
    """All piles of a whole up to this."""
    return [pile_of(coins) for each in range(total + 1) for coins in lists_of(each, each)]


def piles_within(pile):
    """All piles that lie in the pile."""
    found = [()]
    for worth, many in pile:
        found = [put(within, ((worth, coins),) if coins else ()) for within in found for coins in range(many + 1)]
    return found


@functools.lru_cache(maxsize=None)
def is_honoured(pile, right):
    """Whether some way of paying pays each run of the right: some paying of each call, honoured behind it, too."""
    return all(any(is_honoured(take(pile, paying), behind(right, name, amount)) for paying in payings(pile, amount))
               for name, amount in next_calls(right))


@functools.lru_cache(maxsize=None)
def can_be_paid(pile, amounts):
    """Whether a row of amounts can be paid by one who knows it ahead."""
    return not amounts or any(can_be_paid(take(pile, paying), amounts[1:]) for paying in payings(pile, amounts[0]))


def calls_of(amounts):
    """The right of one call of up to each of the amounts, named as they stand."""
    return ("all", tuple(("call", "abcdefghijklmnopqrstuvwxyz"[at], amount, 1) for at, amount in enumerate(amounts)))


def amounts_of(run):
    return tuple(amount for _, amount in run)
