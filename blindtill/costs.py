"""Rights held against rights: which one is no dearer, so that each pile that serves the other one serves it."""

from blindtill.errors import TooGreat
from blindtill.most import check_small_right, greatest_call, greatest_sum, longest, rows_of, sum_of_first, sums_below
from blindtill.rights import MOST_DEEP, check_right, depth, trim

LETTERS = "abcdefghijklmnopqrstuvwxyz"
LONGEST_PLACED = 12


def no_dearer(one, other):
    """Whether each pile that serves the other right serves the one."""
    return telling_till(one, other) is None


def telling_till(one, other):
    """None where the one right is no dearer, else a pile that serves the other and doesn't serve the one."""
    check_right(one)
    check_right(other)
    check_small_right(one)
    check_small_right(other)
    ones, others = sums_below(one), sums_below(other)
    # Behind the end of a list its last sum stands for all others.
    for below in range(2, max(len(ones), len(others))):
        needed = others[min(below, len(others) - 1)]
        if ones[min(below, len(ones) - 1)] > needed:
            return _till_of(below, needed, others[-1])
    return None


def _till_of(worth, lesser, least):
    """A pile of coins of 1 that come to lesser, and of one coin of the worth or more, of no less than least in all."""
    many = max(1, (least - lesser + worth - 1) // worth)
    return ((1, lesser), (worth, many)) if lesser > 0 else ((worth, many),)


def cover(right):
    """The tuple of the calls, as (most, times), of the cheapest right of calls alone that is no cheaper."""
    check_right(right)
    check_small_right(right)
    sums = sums_below(right)
    lots = []
    reached = 0
    most_each, times = 0, 0
    for worth in range(1, len(sums)):
        # So many calls are of this worth or more; there are never more of them than of the lesser worth's.
        needed = _calls_from(sums, worth, reached)
        if needed < times:
            lots.append((most_each, times - needed))
        reached += needed
        most_each, times = worth, needed
    lots.reverse()
    return tuple(lots)


def _calls_from(sums, worth, reached):
    """The least count of calls that, each rising evenly from the sum reached at this worth, stay above all the sums."""
    # A quotient is rounded up by turning its sign twice.
    return max([0] + [-((reached - sums[below]) // (below - worth)) for below in range(worth + 1, len(sums))])


def choice(right):
    """The right to choose one of some rows of two calls, which costs just what the right costs."""
    check_right(right)
    check_small_right(right)
    return one_of_rows(sums_below(right))


def one_of_rows(sums):
    """The right to choose one of the most even rows of calls, for each below from 2 on one that comes to its sum."""
    rows = []
    count = 0
    for below in range(2, len(sums)):
        each = below - 1
        lots = [(most_each, times) for most_each, times in ((each, sums[below] // each), (sums[below] % each, 1))
                if most_each > 0 and times > 0]
        calls = [("call", _name_at(count + at), most_each, times) for at, (most_each, times) in enumerate(lots)]
        rows.append(("all", tuple(calls)))
        count += len(calls)
    return trim(("one", tuple(rows)))


def _name_at(place):
    """The name at this place of a to z, then aa, ab and so on to zz."""
    if place < len(LETTERS):
        return LETTERS[place]
    first, second = divmod(place - len(LETTERS), len(LETTERS))
    return LETTERS[first] + LETTERS[second]


def stands_for(one, other):
    """Whether the one right may stand in the other's place in every right without making it dearer."""
    return telling_place(one, other) is None


def telling_place(one, other):
    """None where the one right may stand so, else a count of calls and a pile at which it is dearer."""
    check_right(one)
    check_right(other)
    _check_placed(one)
    _check_placed(other)
    greatest = max(greatest_call(one), greatest_call(other))
    most_calls = max(longest(one), longest(other))
    for below in range(2, greatest + 2):
        ones, others = _sums_by_calls(one, below, most_calls), _sums_by_calls(other, below, most_calls)
        for calls in range(1, most_calls + 1):
            if ones[calls] > others[calls]:
                return (calls, _till_of(below, others[calls], greatest_sum(other, None, calls)))
    return None


def _sums_by_calls(right, below, most_calls):
    """The list of the right's mosts for each count of calls from 0 to so many."""
    rows = rows_of(right, below)
    return [max([sum_of_first(row, calls) for row in rows]) for calls in range(most_calls + 1)]


def _check_placed(right):
    """Refuse a right that is too great to be asked what it may stand for."""
    check_small_right(right)
    # It may stand in a right, which then lies deeper.
    if depth(right) >= MOST_DEEP or longest(right) > LONGEST_PLACED:
        raise TooGreat()
