"""A till as it stands: its pile and its promises, and what a house asks of each till."""

from blindtill.errors import NoCall, NoPromise, TooGreat
from blindtill.piles import sum_of
from blindtill.rights import MOST_DEEP, NONE, depth, names_within, trim
from blindtill.serving import check_meets, needs_of

MOST_NAMES = 12
MOST_PROMISES = 12
MOST_WHOLE = 1000000000000


class Till:
    """A pile and the list of the promises, as (name, right), with the right of all of them.

    It never changes: a deed at a till makes another one, so that a deed that is refused leaves the till as it was.
    """

    def __init__(self, pile, promises):
        self.pile = pile
        self.promises = promises
        self.right = trim(("all", tuple([right for _, right in promises])))
        self.names = names_within(self.right)


def check_size(state):
    """Refuse a till that would be greater than tills may be."""
    if len(state.names) > MOST_NAMES or len(state.promises) > MOST_PROMISES:
        raise TooGreat()
    if depth(state.right) > MOST_DEEP or sum_of(state.pile) > MOST_WHOLE:
        raise TooGreat()


def check_served(state):
    """Refuse a till that wouldn't serve its right."""
    check_meets(state.pile, needs_of(state.pile, state.right))


def right_with(state, name):
    """The promised right that has the call of this name."""
    for _, right in state.promises:
        if name in names_within(right):
            return right
    raise NoCall()


def promises_with(promises, right, changed):
    """The promises with the changed right, trimmed, in the place of the right; it goes where that is none."""
    kept = trim(changed)
    rows = [(name, kept if each == right else each) for name, each in promises]
    return [row for row in rows if row[1] != NONE]


def promise_named(state, name):
    """The promise of this name."""
    for row in state.promises:
        if row[0] == name:
            return row
    raise NoPromise()


def promises_without(promises, rows):
    """The promises but for those of these rows."""
    return [row for row in promises if row not in rows]


def promises_named(state, which):
    """The list of the promises of these names, in their order; refuses what is no list of unlike ones."""
    if not isinstance(which, list):
        raise NoPromise()
    rows = [promise_named(state, name) for name in which]
    # All of them are names by now.
    if len(set(which)) < len(which):
        raise NoPromise()
    return rows
