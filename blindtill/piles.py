"""Piles of coins, and the payings that lie in them."""

from blindtill.checks import check_number, is_number
from blindtill.errors import NoCoins, NoPile, TooGreat

SMALL_WHOLE = 200
MOST_PAYINGS = 2000


def is_pile(thing):
    """Whether this is a pile."""
    if not isinstance(thing, tuple):
        return False
    last = 0
    for lot in thing:
        if not _is_lot(lot) or lot[0] <= last:
            return False
        last = lot[0]
    return True


def _is_lot(thing):
    if not isinstance(thing, tuple) or len(thing) != 2:
        return False
    return is_number(thing[0], 1) and is_number(thing[1], 1)


def check_pile(thing):
    """Refuse what is no pile."""
    if not is_pile(thing):
        raise NoPile()


def whole(pile):
    """The sum of the pile's coins."""
    check_pile(pile)
    return sum([worth * many for worth, many in pile])


def less(pile, worth):
    """The sum of the pile's coins that are worth less than this."""
    check_pile(pile)
    check_number(worth, 1)
    return sum([lesser * many for lesser, many in pile if lesser < worth])


def put(one, other):
    """The pile of the coins of both."""
    check_pile(one)
    check_pile(other)
    lots = dict(one)
    for worth, many in other:
        lots[worth] = lots.get(worth, 0) + many
    return tuple([(worth, lots[worth]) for worth in sorted(lots)])


def take(pile, other):
    """The pile without the coins of the other one."""
    check_pile(pile)
    check_pile(other)
    lots = dict(pile)
    # The other's worths rise, so the first of which there are too few is the least.
    for worth, many in other:
        if lots.get(worth, 0) < many:
            raise NoCoins(worth)
        lots[worth] = lots[worth] - many
    return tuple([(worth, many) for worth, many in lots.items() if many > 0])


def check_small_pile(pile):
    """Refuse a pile that isn't small."""
    if whole(pile) > SMALL_WHOLE:
        raise TooGreat()


def payings(pile, amount):
    """The rising list of all payings of the amount from the pile."""
    check_pile(pile)
    check_number(amount, 0)
    check_small_pile(pile)
    if amount > whole(pile):
        return []
    counts = _counts_behind(pile, amount)
    if counts[0][amount] > MOST_PAYINGS:
        raise TooGreat()
    return _listed(pile, amount, counts)


def _counts_behind(pile, amount):
    """At each place of the pile, and at its end, how many payings of 0 to amount the lots from there on have."""
    counts = [[1] + [0] * amount]
    for worth, many in reversed(pile):
        counts.append(_with_lot(counts[-1], worth, many))
    counts.reverse()
    return counts


def _with_lot(count, worth, many):
    """How many payings of each amount there are with this lot, too."""
    return [sum([count[amount - worth * coins] for coins in range(min(many, amount // worth) + 1)])
            for amount in range(len(count))]


def _listed(pile, amount, counts):
    begun = [((), amount)]
    # Only what the lots behind can finish is kept, so there are never more begun than there are payings.
    for place, (worth, many) in enumerate(pile):
        begun = [longer for paying, rest in begun for longer in _longer(paying, rest, worth, many, counts[place + 1])]
    return sorted([paying for paying, _ in begun])


def _longer(paying, rest, worth, many, count):
    """The paying with each number of coins of this lot behind which the rest can be paid, and that rest."""
    found = []
    for coins in range(min(many, rest // worth) + 1):
        left = rest - worth * coins
        if count[left] > 0:
            found.append((paying + ((worth, coins),) if coins > 0 else paying, left))
    return found
