"""What may be promised beside a right, and the paying that leaves the most room."""

from blindtill.piles import check_pile, payings, take
from blindtill.rights import behind, check_right
from blindtill.serving import bounds_of, check_meets, meets, needs_of


def room(pile, right):
    """The greatest number up to which one further call may be promised beside the right, 0 where none may be."""
    check_pile(pile)
    check_right(right)
    needs = needs_of(pile, right)
    check_meets(pile, needs)
    return _room_beside(pile, needs)


def _room_beside(pile, needs):
    """The room beside what has these needs, which the pile meets."""
    # At a worth that leaves worth - 1 or more, each call less than the worth has its place.
    lefts = [(below, bound - needs[below]) for below, bound in bounds_of(pile)]
    return min([left for below, left in lefts if below is None or left < below - 1])


def copies(pile, right, other):
    """How many times the other right may be promised beside the right, None where that has no bound."""
    check_pile(pile)
    check_right(right)
    check_right(other)
    needs = needs_of(pile, right)
    check_meets(pile, needs)
    more = needs_of(pile, other)
    counts = [(bound - needs[below]) // more[below] for below, bound in bounds_of(pile) if more[below] > 0]
    return min(counts, default=None)


def roomiest(pile, right, name, amount):
    """Of the payings of a call that leave what is behind it served one that leaves the greatest room, and that room."""
    check_pile(pile)
    needs_behind = needs_of(pile, behind(right, name, amount))
    found = payings(pile, amount)
    check_meets(pile, needs_of(pile, right))
    best = None
    for paying in found:
        left = take(pile, paying)
        if meets(left, needs_behind):
            beside = _room_beside(left, needs_behind)
            if best is None or beside > best[0]:
                best = (beside, paying)
    return best
