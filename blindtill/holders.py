"""Holders: how many can settle any debts among themselves by a pile, whose coins lie with whom they like."""

from itertools import combinations

from blindtill.checks import check_number, is_number
from blindtill.errors import NoParts, NoPile, Stuck
from blindtill.piles import check_pile, check_small_pile, coins_of, gathered, is_pile, put, sum_of
from blindtill.serving import bounds_of

MOST_PURSES = 8


def ready(pile):
    """The greatest count of holders that the pile is ready for, None where it is ready for any."""
    check_pile(pile)
    return min([1 + lesser // (worth - 1) for worth, lesser in _lessers(pile)], default=None)


def _lessers(pile):
    """For each worth above 1 of the pile the worth and the sum of its lesser coins."""
    return [(worth, lesser) for worth, lesser in bounds_of(pile) if worth is not None]


def _short_at(pile, many):
    """The least worth for which the lesser coins are too few for so many holders, None where it is ready for them."""
    short = [worth for worth, lesser in _lessers(pile) if lesser < (many - 1) * (worth - 1)]
    return short[0] if short else None


def undealt(pile, many):
    """None where the pile is ready for so many, else a list of so many worths into which it can't be dealt."""
    check_pile(pile)
    check_number(many, 1)
    short = _short_at(pile, many)
    if short is None:
        return None
    # Who gets less than this coin gets lesser coins alone; either these are too few, or the coin goes to nobody.
    total = sum_of(pile)
    full = min(many - 1, total // (short - 1))
    return [short - 1] * full + [total - full * (short - 1)] + [0] * (many - full - 1)


def tables(pile, seats):
    """The list of a pile for each table, of its worth, each ready for as many as sit there."""
    check_pile(pile)
    _check_seats(seats, sum_of(pile))
    check_small_pile(pile)
    lacks = [worth for _, worth in seats]
    rows = [[] for _ in seats]
    for coin in reversed(coins_of(pile)):
        spares = [lack - many * (coin - 1) for lack, (many, _) in zip(lacks, seats)]
        at = spares.index(max(spares))
        # One of those who sit there gets the coin, each other one may lack up to one less than it.
        if coin > spares[at] + coin - 1:
            raise Stuck(coin)
        rows[at].append(coin)
        lacks[at] -= coin
    return [gathered(row) for row in rows]


def _check_seats(thing, total):
    """Refuse what is no list of how many sit at a table and of its worth, or doesn't come to the total."""
    if not isinstance(thing, list) or not thing or not all([_is_table(seat) for seat in thing]):
        raise NoParts()
    if sum([worth for _, worth in thing]) != total:
        raise NoParts()


def _is_table(thing):
    if not isinstance(thing, tuple) or len(thing) != 2:
        return False
    return is_number(thing[0], 1) and is_number(thing[1], 0)


def shut_group(purses):
    """None where each group can settle its debts, else the places of the least of fewest holders who can't."""
    if not _are_purses(purses):
        raise NoPile()
    for size in range(2, len(purses) + 1):
        for group in combinations(range(len(purses)), size):
            if _short_at(_joined([purses[place] for place in group]), size) is not None:
                return group
    return None


def _are_purses(thing):
    """Whether this is a list of one to eight piles."""
    if not isinstance(thing, list) or not 1 <= len(thing) <= MOST_PURSES:
        return False
    return all([is_pile(purse) for purse in thing])


def _joined(purses):
    pile = ()
    for purse in purses:
        pile = put(pile, purse)
    return pile
