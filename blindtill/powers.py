"""Tills held against tills: all that a till can serve, alone and in every company."""

from blindtill.checks import check_bound
from blindtill.costs import one_of_rows
from blindtill.making import fewest_for
from blindtill.piles import check_pile, check_small_pile, sum_of
from blindtill.rights import trim
from blindtill.safe import allowed
from blindtill.serving import bounds_of


def power(pile, *, below=None):
    """The greatest sum of a run, of calls each less than below, of a right that the pile serves."""
    check_pile(pile)
    check_bound(below, 1)
    return _power(pile, below)


def _power(pile, below):
    if below == 1:
        return 0
    # All of it may be called beside a call of nothing; and one call holds all that there is.
    return allowed(pile, 0, sum_of(pile) + 2 if below is None else below)


def _powers(pile):
    """The list of the pile's powers for each below from 0 to one above its power: the last one is this."""
    return [0] + [_power(pile, below) for below in range(1, _power(pile, None) + 2)]


def does_all(one, other):
    """Whether the pile one serves each right that the pile other serves."""
    return telling_right(one, other) is None


def telling_right(one, other):
    """None where the pile one does all, else a right that the other serves and the one doesn't."""
    check_pile(one)
    check_pile(other)
    for below, bound in bounds_of(one):
        needed = _power(other, below)
        if bound < needed:
            return _most_even(needed, needed + 1 if below is None else below)
    return None


def _most_even(total, below):
    """The right of the most even calls, each less than below, that come to the total."""
    each = below - 1
    lots = (("a", each, total // each), ("b", total % each, 1))
    return trim(("all", tuple([("call", name, most_each, times)
                                  for name, most_each, times in lots if most_each > 0 and times > 0])))


def greatest(pile):
    """The right that the pile serves and beside which each other right that it serves is no dearer."""
    check_pile(pile)
    check_small_pile(pile)
    return one_of_rows(_powers(pile))


def alive(pile):
    """The pile without the coins that are never paid while only what is served is called."""
    check_pile(pile)
    lots = []
    lesser = 0
    for worth, many in pile:
        if worth - 1 > lesser:
            break
        lots.append((worth, many))
        lesser += worth * many
    return tuple(lots)


def leanest(pile):
    """A pile of fewest coins that does all that the pile does."""
    check_pile(pile)
    check_small_pile(pile)
    return fewest_for(_powers(pile), None)


def outdoes(one, other):
    """Whether, put to whatever pile, the one serves each right that the other does."""
    check_pile(one)
    check_pile(other)
    return _outdone_at(one, other) is None


def _outdone_at(one, other):
    """None where the one outdoes the other, else a worth below which it has less, and what the other has there."""
    lesser = 0
    for worth, many in other:
        lesser += worth * many
        if sum([coin * coins for coin, coins in one if coin <= worth]) < lesser:
            return (worth + 1, lesser)
    return None


def telling_company(one, other):
    """None where the one outdoes the other, else a pile and a right that shows that it doesn't."""
    check_pile(one)
    check_pile(other)
    check_small_pile(one)
    check_small_pile(other)
    found = _outdone_at(one, other)
    if found is None:
        return None
    worth, lesser = found
    # With so many coins of 1 the other has just enough for so many calls of up to worth - 1, and for all lesser ones.
    ones = lesser * (worth - 2)
    company = ((1, ones), (worth, 1)) if ones > 0 else ((worth, 1),)
    return (company, ("call", "a", worth - 1, lesser))
