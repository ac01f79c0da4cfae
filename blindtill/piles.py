"""Piles of coins, and the payings that lie in them."""

from blindtill.checks import SMALL, check_number, is_number
from blindtill.errors import NoCoins, NoPile, TooGreat

MOST_PAYINGS = 2000


def is_pile(thing):
    """Whether this is a pile."""
    if not isinstance(thing, tuple):
        return False
    last = 0
    for lot in thing:
        if not _is_lot(lot) or lot[0] <= last:
            return False
        last = lot[0]
    return True


def _is_lot(thing):
    if not isinstance(thing, tuple) or len(thing) != 2:
        return False
    return is_number(thing[0], 1) and is_number(thing[1], 1)


def check_pile(thing):
    """Refuse what is no pile."""
    if not is_pile(thing):
        raise NoPile()


def whole(pile):
    """The sum of the pile's coins."""
    check_pile(pile)
    return sum_of(pile)


def sum_of(pile):
    """The whole of what is known to be a pile."""
    return sum([worth * many for worth, many in pile])


def less(pile, worth):
    """The sum of the pile's coins that are worth less than this."""
    check_pile(pile)
    check_number(worth, 1)
    return sum([lesser * many for lesser, many in pile if lesser < worth])


def put(one, other):
    """The pile of the coins of both."""
    check_pile(one)
    check_pile(other)
    lots = dict(one)
    for worth, many in other:
        lots[worth] = lots.get(worth, 0) + many
    return tuple([(worth, lots[worth]) for worth in sorted(lots)])


def coins_of(pile):
    """The rising list of the worths of all coins of what is known to be a pile."""
    return [worth for worth, many in pile for _ in range(many)]


def gathered(coins):
    """The pile of these coins, a list of their worths."""
    lots = {}
    for worth in sorted(coins):
        lots[worth] = lots.get(worth, 0) + 1
    return tuple([(worth, many) for worth, many in lots.items()])


def take(pile, other):
    """The pile without the coins of the other one."""
    check_pile(pile)
    check_pile(other)
    lots = dict(pile)
    # The other's worths rise, so the first of which there are too few is the least.
    for worth, many in other:
        if lots.get(worth, 0) < many:
            raise NoCoins(worth)
        lots[worth] = lots[worth] - many
    return tuple([(worth, many) for worth, many in lots.items() if many > 0])


def check_small_pile(pile):
    """Refuse what is known to be a pile, but isn't small."""
    if sum_of(pile) > SMALL:
        raise TooGreat()


def payings(pile, amount):
    """The rising list of all payings of the amount from the pile."""
    check_pile(pile)
    check_number(amount, 0)
    check_small_pile(pile)
    if amount > sum_of(pile):
        return []
    # The payings of all amounts together are the piles within it, which are soon counted.
    if count_within(pile) > MOST_PAYINGS and _how_many(pile, amount) > MOST_PAYINGS:
        raise TooGreat()
    return _listed(pile, amount)


def count_within(pile):
    """How many piles lie in the pile, of whatever whole."""
    count = 1
    for _, many in pile:
        count *= many + 1
    return count


def _how_many(pile, amount):
    """How many payings of the amount there are."""
    # What a paying leaves is a paying of the rest, so there are as many of these: the shorter table tells both.
    least = min(amount, sum_of(pile) - amount)
    table = [1] + [0] * least
    total = 0
    for worth, many in pile:
        total += worth * many
        _count_lot(table, worth, many, min(least, total))
    return table[least]


def _count_lot(table, worth, many, top):
    """Make the table, which counts the payings from the lots ahead, count those with this lot, too, up to top."""
    # First as if there were coins of this worth without end; then what takes more than there are goes out again.
    for total in range(worth, top + 1):
        table[total] += table[total - worth]
    gap = worth * (many + 1)
    for total in range(top, gap - 1, -1):
        table[total] -= table[total - gap]


def _listed(pile, amount):
    """The rising list of the payings of the amount, which is no more than the whole."""
    ends = {0: [()]}
    for (worth, many), rests in reversed(list(zip(pile, _rests(pile, amount)))):
        ends = _ends_with_lot(ends, worth, many, rests)
    return ends.get(amount, [])


def _rests(pile, amount):
    """For each lot of the pile, what those ahead may have left to pay: no more than it and those behind have in all."""
    rests = []
    total = sum_of(pile)
    ahead = 0
    # Of these bits the one at each sum tells whether the lots ahead can pay it.
    paid_ahead = 1
    for worth, many in pile:
        least, greatest = max(0, amount - ahead), min(amount, total - ahead)
        rests.append([rest for rest in range(least, greatest + 1) if paid_ahead >> (amount - rest) & 1])
        ahead += worth * many
        for _ in range(many):
            paid_ahead |= paid_ahead << worth
    return rests


def _ends_with_lot(ends, worth, many, rests):
    """The rising list of the payings of each of the rests, from this lot and those behind, of which ends tells."""
    # Each end is made once for all the ways ahead of it. A paying without coins of this worth begins with a greater
    # worth, so it comes behind those with some.
    found = {}
    for rest in rests:
        listed = []
        for coins in range(1, min(many, rest // worth) + 1):
            behind = ends.get(rest - worth * coins)
            if behind is not None:
                lot = ((worth, coins),)
                listed.extend([lot + end for end in behind])
        listed.extend(ends.get(rest, []))
        if listed:
            found[rest] = listed
    return found
