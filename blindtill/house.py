"""A house: tills by their names, what lies in them and what is promised at them."""

from blindtill.changes import call_of_one_time, check_shares, check_unlike_names, cut_up, melted
from blindtill.checks import check_number
from blindtill.clerk import pay
from blindtill.errors import NoCall, NoParts, NoTill, Stuck, Taken
from blindtill.making import broken_up, check_broken_parts
from blindtill.most import greatest_sum
from blindtill.parting import share_out
from blindtill.piles import check_pile, check_small_pile, put, sum_of, take
from blindtill.rights import NONE, behind, check_name, check_right, lapsed, names_within, trim
from blindtill.serving import bounds_of, needs_of
from blindtill.till import (
    Till, check_served, check_size, promise_named, promises_named, promises_with, promises_without, right_with)


class House:
    """Tills and promises; at each moment each till serves its right."""

    def __init__(self):
        self._tills = {}
        self._seen = []
        self._brought = 0
        self._paid = 0
        self._lent = 0

    def tills(self):
        """The rising list of the tills' names."""
        return sorted(self._tills)

    def pile_of(self, till):
        """The till's pile."""
        check_name(till)
        return self._standing(till).pile

    def promises_of(self, till):
        """The list of the till's promises, as (name, right), in the order in which they came."""
        check_name(till)
        return list(self._standing(till).promises)

    def right_of(self, till):
        """The all of the rights promised at the till, trimmed."""
        check_name(till)
        return self._standing(till).right

    def _standing(self, till):
        """The till of this name."""
        if till not in self._tills:
            raise NoTill()
        return self._tills[till]

    def _check_free_till(self, till):
        if till in self._tills:
            raise Taken()

    def _check_free_promise(self, name):
        for state in self._tills.values():
            if name in [promised for promised, _ in state.promises]:
                raise Taken()

    def _check_free_calls(self, called):
        """Refuse names of calls of which one stands in the house."""
        for state in self._tills.values():
            if any([name in state.names for name in called]):
                raise Taken()

    def new(self, till, pile):
        """A new till without promises."""
        check_name(till)
        check_pile(pile)
        self._check_free_till(till)
        state = Till(pile, [])
        check_size(state)
        self._tills[till] = state
        self._brought += sum_of(pile)

    def bring(self, till, pile):
        """Coins are put there."""
        check_name(till)
        check_pile(pile)
        state = self._standing(till)
        fuller = Till(put(state.pile, pile), state.promises)
        check_size(fuller)
        self._tills[till] = fuller
        self._brought += sum_of(pile)

    def promise(self, till, *, name, right):
        """A promise more, trimmed; what trims to none isn't kept."""
        check_name(till)
        check_name(name)
        check_right(right)
        state = self._standing(till)
        self._check_free_promise(name)
        self._check_free_calls(names_within(right))
        kept = trim(right)
        if kept != NONE:
            bound = Till(state.pile, state.promises + [(name, kept)])
            check_size(bound)
            check_served(bound)
            self._tills[till] = bound

    def call(self, till, *, name, amount):
        """The blind clerk's paying of a call, which leaves the till."""
        check_name(till)
        check_name(name)
        check_number(amount, 1)
        state = self._standing(till)
        right = right_with(state, name)
        promises = promises_with(state.promises, right, behind(right, name, amount))
        paying = pay(state.pile, amount)
        self._tills[till] = Till(take(state.pile, paying), promises)
        self._seen.append((till, amount))
        self._paid += amount
        return paying

    def lapse(self, till, *, name):
        """The call of this name lapses."""
        check_name(till)
        check_name(name)
        state = self._standing(till)
        right = right_with(state, name)
        self._tills[till] = Till(state.pile, promises_with(state.promises, right, lapsed(right, name)))

    def end(self, till, *, name):
        """The promise goes."""
        check_name(till)
        check_name(name)
        state = self._standing(till)
        row = promise_named(state, name)
        self._tills[till] = Till(state.pile, promises_without(state.promises, [row]))

    def would(self, till, right):
        """Whether the till's pile serves all of the till's right and this one, whatever its names."""
        check_name(till)
        check_right(right)
        state = self._standing(till)
        # What both need is added up, as both together may be no right: too deep, or with a name twice.
        needs, more = needs_of(state.pile, state.right), needs_of(state.pile, right)
        return all([needs[below] + more[below] <= bound for below, bound in bounds_of(state.pile)])

    def cut(self, till, *, name, others):
        """The call of this name becomes the all of calls by others, a list of tuples (name, most)."""
        check_name(till)
        check_name(name)
        check_shares(others)
        state = self._standing(till)
        called = [other for other, _ in others]
        if len(set(called)) < len(called):
            raise Taken()
        self._check_free_calls([other for other in called if other != name])
        right = right_with(state, name)
        call = call_of_one_time(right, name)
        shared = Till(state.pile, promises_with(state.promises, right, cut_up(right, call, others)))
        check_size(shared)
        if sum([most_each for _, most_each in others]) != call[2]:
            raise NoParts()
        check_served(shared)
        self._tills[till] = shared

    def melt(self, till, *, which, into):
        """The calls of these names, straight in one all of one promise, become one call of the sum of their mosts."""
        check_name(till)
        check_unlike_names(which)
        check_name(into)
        state = self._standing(till)
        if into not in which:
            self._check_free_calls([into])
        right = right_with(state, which[0])
        changed = melted(right, which, into)
        if changed is None:
            raise NoCall()
        # Fewer calls, which lie no deeper: it can't be too great.
        joined = Till(state.pile, promises_with(state.promises, right, changed))
        check_served(joined)
        self._tills[till] = joined

    def break_coin(self, till, *, worth, parts):
        """One coin of the worth is broken into coins of the parts."""
        check_name(till)
        check_number(worth, 1)
        check_broken_parts(parts, worth)
        state = self._standing(till)
        self._tills[till] = Till(broken_up(state.pile, worth, parts), state.promises)

    def lend(self, till, pile):
        """These coins are gone, if what is left serves the right."""
        check_name(till)
        check_pile(pile)
        state = self._standing(till)
        left = Till(take(state.pile, pile), state.promises)
        check_served(left)
        self._tills[till] = left
        self._lent += sum_of(pile)

    def unite(self, till, other):
        """The other till's coins and promises go to the till, and the other is gone."""
        state, others = self._two_standing(till, other)
        both = Till(put(state.pile, others.pile), state.promises + others.promises)
        check_size(both)
        self._tills[till] = both
        self._tills.pop(other)

    def _two_standing(self, till, other):
        """The two tills of these names, which are no names of one."""
        check_name(till)
        check_name(other)
        state, others = self._standing(till), self._standing(other)
        if till == other:
            raise NoTill()
        return state, others

    def part(self, till, other, *, worth, which):
        """The other is a new till, with the promises of these names and coins of this worth."""
        check_name(till)
        check_name(other)
        check_number(worth, 0)
        state = self._standing(till)
        self._check_free_till(other)
        rows = promises_named(state, which)
        check_small_pile(state.pile)
        stays = Till(state.pile, promises_without(state.promises, rows))
        goes = Till((), rows)
        worths = (sum_of(state.pile) - worth, worth)
        if worths[0] < greatest_sum(stays.right, None, None) or worth < greatest_sum(goes.right, None, None):
            raise Stuck(None)
        piles = share_out(state.pile, [(worths[0], stays.right), (worth, goes.right)])
        self._tills[till] = Till(piles[0], stays.promises)
        self._tills[other] = Till(piles[1], rows)

    def carry(self, till, other, *, name):
        """A promise goes to another till, behind its own."""
        check_name(name)
        state, others = self._two_standing(till, other)
        row = promise_named(state, name)
        bound = Till(others.pile, others.promises + [row])
        check_size(bound)
        check_served(bound)
        self._tills[till] = Till(state.pile, promises_without(state.promises, [row]))
        self._tills[other] = bound

    def seen(self):
        """The list of all calls that were paid, as (till, amount): all that the clerks were told."""
        return list(self._seen)

    def flow(self):
        """The worth of all that was brought, of all that was paid, of all that was lent."""
        return (self._brought, self._paid, self._lent)
