"""Which payings are safe: behind them whatever was served is still served."""

from blindtill.checks import check_bound, check_number
from blindtill.errors import NoPile
from blindtill.piles import check_pile, payings, sum_of, take


def allow(pile, amount, *, below=None):
    """The greatest sum of calls, each less than below, that the pile serves beside a call of up to the amount."""
    check_pile(pile)
    check_number(amount, 1)
    check_bound(below, 2)
    # One call holds all that is left: a bound above the whole is none.
    return allowed(pile, amount, sum_of(pile) + 2 if below is None else below)


def allowed(pile, amount, below):
    """What allow tells for a below that isn't None."""
    greatest = sum_of(pile) - amount
    if greatest < 0:
        return None
    lesser = 0
    for worth, many in pile:
        if worth > 1:
            room = lesser - min(amount, worth - 1)
            if room < 0:
                return None
            greatest = min(greatest, _evenly(room, worth, below))
        lesser += worth * many
    return greatest


def _evenly(room, worth, below):
    """The greatest sum of a most even list of calls less than below that, cut to worth - 1, come to no more than room.

    A most even list has as many calls of below - 1 as go into its sum, and one of the rest.
    """
    if worth > below:
        return room
    return (below - 1) * (room // (worth - 1)) + room % (worth - 1)


def is_safe(pile, paying):
    """Whether the paying is a safe one of its whole."""
    return _broken_at(pile, paying) is None


def _broken_at(pile, paying):
    """None where the paying is safe, else the least worth at which it isn't, and the sum of the lesser coins left."""
    # Refuses what is no pile, and a paying that doesn't lie in the pile.
    take(pile, paying)
    if paying == ():
        raise NoPile()
    return _too_few_at(pile, paying, _needs(pile, sum_of(paying)))


def _needs(pile, amount):
    """For each lot of the pile what the lesser coins must come to behind a safe paying of the amount."""
    # No call is less than 1. Where no call of up to the amount is served, nothing was promised that could break.
    return [(allowed(pile, amount, worth) or 0) if worth > 1 else 0 for worth, _ in pile]


def _too_few_at(pile, paying, needs):
    """The least worth left for which the lesser coins left are too few, and their sum; None where none is."""
    coins = dict(paying)
    lesser = 0
    for (worth, many), needed in zip(pile, needs):
        left = many - coins.get(worth, 0)
        if left > 0 and lesser < needed:
            return (worth, lesser)
        lesser += worth * left
    return None


def telling_call(pile, paying):
    """None where the paying is safe, else a right that is served, but not behind its call "a" so paid."""
    broken = _broken_at(pile, paying)
    if broken is None:
        return None
    worth, lesser = broken
    # One more than what is left is still allowed beside the call, by the most even list.
    most_each = worth - 1
    times = (lesser + 1) // most_each
    rest = (lesser + 1) - most_each * times
    rights = [("call", "a", sum_of(paying), 1)]
    if times > 0:
        rights.append(("call", "b", most_each, times))
    if rest > 0:
        rights.append(("call", "c", rest, 1))
    return ("all", tuple(rights))


def safe_payings(pile, amount):
    """The rising list of the payings of the amount from the pile that are safe."""
    check_pile(pile)
    check_number(amount, 1)
    found = payings(pile, amount)
    needs = _needs(pile, amount)
    return [paying for paying in found if _too_few_at(pile, paying, needs) is None]
