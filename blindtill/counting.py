"""All tills of a right counted: piles of one whole and of so many coins.

A TABLE is a list of rows, one for each count of coins left: at each sum so far, for each worth, how many ways there
are to go on with coins of this worth, of which there may be any, and of greater ones.
"""

from blindtill.checks import check_number
from blindtill.errors import NoPlace, TooGreat
from blindtill.most import greatest_sum
from blindtill.piles import check_pile, coins_of, gathered, sum_of
from blindtill.rights import check_right
from blindtill.serving import check_meets, needs_of

MOST_WORTH = 100
MOST_COINS = 20
MOST_TILLS = 3000


def how_many(right, worth, coins):
    """How many piles of this whole and this many coins serve the right."""
    _check_asked(right, worth, coins)
    return _ways(_table(_sums(right, worth), worth, coins), coins, 0, 1)


def _check_asked(right, worth, coins):
    check_right(right)
    check_number(worth, 0)
    check_number(coins, 0)
    _check_size(worth, coins)


def _check_size(worth, coins):
    if worth > MOST_WORTH or coins > MOST_COINS:
        raise TooGreat()


def _sums(right, worth):
    """The list of the right's mosts for each below from 0 to the worth, behind them that of all calls."""
    return [0] + [greatest_sum(right, below, None) for below in range(1, worth + 1)] + [greatest_sum(right, None, None)]


def _table(sums, worth, coins):
    """The table of the piles of this whole and so many coins that serve what has these sums."""
    served = 1 if worth >= sums[-1] else 0
    # Without coins left, whatever the last one was, the sum is to be the whole.
    table = [[[]] * worth + [[served] * (worth + 2)]]
    for left in range(1, coins + 1):
        table.append([_row(sums, worth, left, total, table) for total in range(worth + 1)])
    return table


def _row(sums, worth, left, total, table):
    """The counts, for each worth of the next coin, with so many coins left behind this sum."""
    # None of the coins is of more than this, as no later one is of less.
    greatest = (worth - total) // left
    row = [0] * (greatest + 1)
    greater = 0
    for coin in range(greatest, 0, -1):
        ways = _ways(table, left - 1, total + coin, coin)
        row[coin] = ways + greater
        # A first coin of its worth needs enough in lesser ones.
        if sums[coin] <= total:
            greater += ways
    return row


def _ways(table, left, total, coin):
    """How many ways there are to go on behind this sum with so many coins, this worth's or greater ones."""
    row = table[left][total]
    return row[coin] if coin < len(row) else 0


def _next_coins(sums, worth, left, total, last, table):
    """The rising list of the next coins, and in how many ways it goes on behind each of them."""
    return [(coin, _ways(table, left - 1, total + coin, coin)) for coin in range(last, (worth - total) // left + 1)
            if coin == last or sums[coin] <= total]


def all_tills(right, worth, coins):
    """The list of the piles of this whole and this many coins that serve the right."""
    _check_asked(right, worth, coins)
    sums = _sums(right, worth)
    table = _table(sums, worth, coins)
    if _ways(table, coins, 0, 1) > MOST_TILLS:
        raise TooGreat()
    if _ways(table, coins, 0, 1) == 0:
        return []
    begun = [[]]
    for left in range(coins, 0, -1):
        begun = [ahead + [coin] for ahead in begun
                 for coin, ways in _next_coins(sums, worth, left, sum(ahead), max(ahead + [1]), table) if ways > 0]
    return [gathered(ahead) for ahead in begun]


def till_at(right, worth, coins, place):
    """The pile at this place of the list of them."""
    _check_asked_at(right, worth, coins, place)
    sums = _sums(right, worth)
    table = _table(sums, worth, coins)
    if place >= _ways(table, coins, 0, 1):
        raise NoPlace()
    chosen = []
    ahead = place
    for left in range(coins, 0, -1):
        coming = _next_coins(sums, worth, left, sum(chosen), max(chosen + [1]), table)
        for coin, ways in coming:
            if ahead < ways:
                chosen.append(coin)
                break
            ahead -= ways
    return gathered(chosen)


def _check_asked_at(right, worth, coins, place):
    check_right(right)
    check_number(worth, 0)
    check_number(coins, 0)
    check_number(place, 0)
    _check_size(worth, coins)


def place_of(right, pile):
    """The place of the pile among those of its whole and of as many coins."""
    check_right(right)
    check_pile(pile)
    worth, count = sum_of(pile), sum([many for _, many in pile])
    _check_size(worth, count)
    check_meets(pile, needs_of(pile, right))
    sums = _sums(right, worth)
    table = _table(sums, worth, count)
    place = total = 0
    last = 1
    coins = coins_of(pile)
    for ahead, chosen in enumerate(coins):
        lesser = _next_coins(sums, worth, count - ahead, total, last, table)
        place += sum([ways for coin, ways in lesser if coin < chosen])
        total += chosen
        last = chosen
    return place
