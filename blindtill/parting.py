"""Tills parted: into piles of asked worths for several rights, or somehow for two of them."""

from blindtill.checks import is_number
from blindtill.errors import NoParts, Stuck, TooGreat
from blindtill.most import greatest_sum
from blindtill.piles import check_pile, check_small_pile, count_within, sum_of, take
from blindtill.rights import check_right, is_right
from blindtill.serving import meets, needs_of

MOST_WITHIN = 2000


def parted(pile, parts):
    """The list of a pile for each part, of its worth, that serves its right."""
    check_pile(pile)
    _check_parts(parts, sum_of(pile))
    check_small_pile(pile)
    return share_out(pile, parts)


def _check_parts(thing, total):
    """Refuse what is no list of worths and rights, or doesn't come to the total."""
    if not isinstance(thing, list) or not thing or not all([_is_part(part) for part in thing]):
        raise NoParts()
    if sum([worth for worth, _ in thing]) != total:
        raise NoParts()


def _is_part(thing):
    if not isinstance(thing, tuple) or len(thing) != 2:
        return False
    worth, right = thing
    return is_number(worth, 0) and is_right(right) and worth >= greatest_sum(right, None, None)


def share_out(pile, parts):
    """The list of a pile for each of what are known to be parts."""
    lacks = [worth for worth, _ in parts]
    lots = [[] for _ in parts]
    for coin, many in reversed(pile):
        left = many
        for at, (_, right) in enumerate(parts):
            # A part takes coins as long as it still lacks enough for its right's lesser calls behind them.
            spare = lacks[at] - greatest_sum(right, coin, None)
            coins = min(left, max(0, spare // coin))
            if coins > 0:
                lots[at].append((coin, coins))
                lacks[at] -= coin * coins
                left -= coins
        if left > 0:
            raise Stuck(coin)
    return [tuple(reversed(row)) for row in lots]


def can_part(pile, one, other):
    """Two piles that make up the pile and serve the one right and the other, None where there are none."""
    check_pile(pile)
    check_right(one)
    check_right(other)
    check_small_pile(pile)
    if count_within(pile) > MOST_WITHIN:
        raise TooGreat()
    needs, others_needs = needs_of(pile, one), needs_of(pile, other)
    for second in sorted(_piles_within(pile)):
        first = take(pile, second)
        if meets(second, others_needs) and meets(first, needs):
            return (first, second)
    return None


def _piles_within(pile):
    """The list of all piles that lie in the pile."""
    found = [()]
    for worth, many in pile:
        found = found + [within + ((worth, coins),) for within in found for coins in range(1, many + 1)]
    return found
