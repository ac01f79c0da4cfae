"""Which rights a till serves, and runs that no way of paying outlives where it doesn't."""

from blindtill.checks import is_number
from blindtill.errors import NoCall, TooGreat, Unserved
from blindtill.most import MOST_CALLS, count_above, first_calls, greatest_sum, rows_of
from blindtill.piles import check_pile, sum_of
from blindtill.rights import after, check_right


def serves(pile, right):
    """Whether some way of paying pays each run of the right from the pile."""
    check_pile(pile)
    check_right(right)
    return meets(pile, needs_of(pile, right))


def needs_of(pile, right):
    """For each worth above 1 of the pile, and None, the most of the right that [12] holds against the lesser coins."""
    return {below: greatest_sum(right, below, None) for below, _ in bounds_of(pile)}


def meets(pile, needs):
    """Whether a pile, of no worths that the needs don't tell of, serves what has these needs."""
    return all([needs[below] <= bound for below, bound in bounds_of(pile)])


def check_meets(pile, needs):
    """Refuse a pile that doesn't serve what has these needs."""
    for below, bound in bounds_of(pile):
        if needs[below] > bound:
            raise Unserved(below)


def bounds_of(pile):
    """Each worth above 1 and None for no worth, with what calls of less than this may sum to."""
    bounds = []
    lesser = 0
    for worth, many in pile:
        if worth > 1:
            bounds.append((worth, lesser))
        lesser += worth * many
    return bounds + [(None, lesser)]


def stumped(pile, right):
    """A worth and a run of fewest calls that shows that the pile doesn't serve the right, None where it does."""
    check_pile(pile)
    check_right(right)
    fewest, found = None, None
    # The worths rise and None comes last, so of runs of like counts the first one is told.
    for below, bound in bounds_of(pile):
        for row in rows_of(right, below):
            count = count_above(row, bound)
            if count is not None and (fewest is None or count < fewest):
                fewest, found = count, (below, row)
    if found is None:
        return None
    if fewest > MOST_CALLS:
        raise TooGreat()
    return (found[0], first_calls(found[1], fewest))


def judge_stump(pile, right, thing):
    """Whether this is a worth and a run of the right that shows that the pile doesn't serve it."""
    check_pile(pile)
    check_right(right)
    if not isinstance(thing, tuple) or len(thing) != 2:
        return False
    worth, run = thing
    if not _is_run(right, run):
        return False
    total = sum([amount for _, amount in run])
    if worth is None:
        return total > sum_of(pile)
    if not is_number(worth, 1) or worth not in dict(pile):
        return False
    lesser = sum([coin * many for coin, many in pile if coin < worth])
    return total > lesser and max([amount for _, amount in run]) < worth


def _is_run(right, thing):
    try:
        after(right, thing)
    except NoCall:
        return False
    return True
