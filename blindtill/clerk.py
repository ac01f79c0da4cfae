"""The blind clerk, who is told nothing but each amount as it comes."""

from blindtill.checks import check_number
from blindtill.errors import NoNumber, NoPay
from blindtill.piles import check_pile, take


def pay(pile, amount):
    """The blind clerk's paying of the amount from the pile."""
    check_pile(pile)
    check_number(amount, 0)
    lots = []
    rest = amount
    for worth, many in reversed(pile):
        coins = min(many, rest // worth)
        if coins > 0:
            lots.append((worth, coins))
            rest -= worth * coins
    if rest > 0:
        raise NoPay(rest)
    lots.reverse()
    return tuple(lots)


def paid(pile, amounts):
    """The list of the clerk's payings of the amounts in their order, and the pile that they leave."""
    check_pile(pile)
    _check_amounts(amounts)
    payings = []
    left = pile
    for amount in amounts:
        paying = pay(left, amount)
        payings.append(paying)
        left = take(left, paying)
    return (payings, left)


def _check_amounts(thing):
    """Refuse what is no list of whole numbers from 0 on."""
    if not isinstance(thing, list):
        raise NoNumber()
    for amount in thing:
        check_number(amount, 0)
