"""What may be called for most: the greatest sums of a right's runs, and runs that have them.

A ROW is a tuple of tuples (amount, times, name), the amounts above 0 and falling: all the calls of one run of a right,
of which, for each count, so many from the first on are a run of the greatest sum that so many calls have, as long as
in each "one" the same right is chosen.
"""

from blindtill.checks import SMALL, check_bound
from blindtill.errors import TooGreat
from blindtill.rights import check_right, straight_within

MOST_CALLS = 60


def most(right, *, below=None, calls=None):
    """The greatest sum of a run of the right, of calls each less than below, of at most so many calls."""
    check_right(right)
    check_bound(below, 1)
    check_bound(calls, 0)
    return greatest_sum(right, below, calls)


def greatest_sum(right, below, calls):
    """The most of what is known to be a right, below and calls."""
    if calls is None or calls >= _most_calls(right):
        return _sum_of_all_calls(right, below)
    return max([sum_of_first(row, calls) for row in rows_of(right, below)])


def _sum_of_all_calls(right, below):
    """The greatest sum of a run of any count of calls."""
    kind = right[0]
    if kind == "none":
        return 0
    if kind == "call":
        return right[3] * _amount_below(right[2], below)
    if kind == "all":
        return sum([_sum_of_all_calls(part, below) for part in right[1]])
    if kind == "one":
        return max([_sum_of_all_calls(part, below) for part in right[1]], default=0)
    if kind == "within":
        return min(right[1], _sum_of_all_calls(right[2], below))
    return greatest_sum(right[2], below, right[1])


def _amount_below(amount, below):
    return amount if below is None else min(amount, below - 1)


def sums_below(right):
    """The list of the right's mosts for each below from 0 to one above the greatest most of its calls."""
    # No call is less than 1; the last sum is that of all calls.
    return [0] + [greatest_sum(right, below, None) for below in range(1, greatest_call(right) + 2)]


def greatest_call(right):
    """The greatest most that stands in a call of the right, 0 where none is there."""
    if right[0] == "call":
        return right[2]
    return max([greatest_call(part) for part in straight_within(right)], default=0)


def check_small_right(right):
    """Refuse what is known to be a right, but isn't small."""
    if not _has_small_mosts(right) or greatest_sum(right, None, None) > SMALL:
        raise TooGreat()


def _has_small_mosts(right):
    if (right[0] == "call" and right[2] > SMALL) or (right[0] == "within" and right[1] > SMALL):
        return False
    return all([_has_small_mosts(part) for part in straight_within(right)])


def longest(right):
    """How many calls a run of the right has at most."""
    check_right(right)
    return _most_calls(right)


def _most_calls(right):
    kind = right[0]
    if kind == "none":
        return 0
    if kind == "call":
        return right[3]
    if kind == "all":
        return sum([_most_calls(part) for part in right[1]])
    if kind == "one":
        return max([_most_calls(part) for part in right[1]], default=0)
    return min(right[1], _most_calls(right[2]))


def most_run(right, *, below=None, calls=None):
    """A run of that sum, within these bounds."""
    check_right(right)
    check_bound(below, 1)
    check_bound(calls, 0)
    count = MOST_CALLS if calls is None else min(calls, MOST_CALLS)
    row = max(rows_of(right, below), key=lambda each: sum_of_first(each, count))
    if sum_of_first(row, count) < greatest_sum(right, below, calls):
        raise TooGreat()
    return first_calls(row, count)


def rows_of(right, below):
    """The rows of the right, of calls each less than below: one at least, and for each run one that outdoes it."""
    kind = right[0]
    if kind == "none":
        return [()]
    if kind == "call":
        amount = _amount_below(right[2], below)
        return [((amount, right[3], right[1]),)] if amount > 0 else [()]
    if kind == "all":
        return _rows_of_all(right[1], below)
    if kind == "one":
        return _not_outdone([row for part in right[1] for row in rows_of(part, below)])
    if kind == "within":
        return [_cut_at_sum(row, right[1]) for row in rows_of(right[2], below)]
    return [_cut_at_count(row, right[1]) for row in rows_of(right[2], below)]


def _rows_of_all(rights, below):
    rows = [()]
    for right in rights:
        others = rows_of(right, below)
        # The greatest calls of both are the greatest of each: no sharing out has to be tried.
        rows = [tuple(sorted(row + other, reverse=True)) for row in rows for other in others]
    return rows


def _not_outdone(rows):
    """Of the rows those that no other one outdoes, of like ones the first; one without calls where there are none."""
    kept = [()]
    for row in rows:
        if not any([_outdoes(other, row) for other in kept]):
            kept = [other for other in kept if not _outdoes(row, other)] + [row]
    return kept


def _outdoes(row, other):
    """Whether, for each count of calls, the first of row sum to no less than those of other."""
    # Between the ends of other's lots its sum grows evenly and the row's ever more slowly: just the ends count.
    count = total = 0
    for amount, times, _ in other:
        count += times
        total += amount * times
        if sum_of_first(row, count) < total:
            return False
    return True


def _cut_at_sum(row, bound):
    """The row of the greatest calls of the row that sum to no more than this."""
    lots = []
    left = bound
    for amount, times, name in row:
        fitting = min(times, left // amount)
        if fitting > 0:
            lots.append((amount, fitting, name))
        left -= amount * fitting
        if fitting < times:
            # The next call is made for what is left alone.
            return tuple(lots + [(left, 1, name)]) if left > 0 else tuple(lots)
    return tuple(lots)


def _cut_at_count(row, count):
    """The row of so many calls of the row, from the first on."""
    lots = []
    left = count
    for amount, times, name in row:
        fitting = min(times, left)
        if fitting > 0:
            lots.append((amount, fitting, name))
        left -= fitting
    return tuple(lots)


def sum_of_first(row, count):
    """The sum of so many calls of the row, from the first on."""
    total = 0
    left = count
    for amount, times, _ in row:
        if times >= left:
            return total + amount * left
        total += amount * times
        left -= times
    return total


def first_calls(row, count):
    """The list of so many calls of the row, from the first on."""
    calls = []
    for amount, times, name in _cut_at_count(row, count):
        calls.extend([(name, amount)] * times)
    return calls


def count_above(row, bound):
    """How many calls of the row, from the first on, sum to more than this, None where all of them don't."""
    count = 0
    left = bound
    for amount, times, _ in row:
        needed = left // amount + 1
        if needed <= times:
            return count + needed
        count += times
        left -= amount * times
    return None
