"""Calls within a right changed: cut into several, or melted into one."""

from blindtill.checks import is_number
from blindtill.errors import NoCall, NoParts
from blindtill.rights import is_name, straight_within, with_straight


def check_shares(thing):
    """Refuse what is no list of two or more tuples of a name and a most."""
    if not isinstance(thing, list) or len(thing) < 2 or not all([_is_share(share) for share in thing]):
        raise NoParts()


def _is_share(thing):
    return isinstance(thing, tuple) and len(thing) == 2 and is_name(thing[0]) and is_number(thing[1], 1)


def check_unlike_names(thing):
    """Refuse what is no list of two or more unlike names."""
    if not isinstance(thing, list) or len(thing) < 2 or not all([is_name(name) for name in thing]):
        raise NoParts()
    if len(set(thing)) < len(thing):
        raise NoParts()


def call_of_one_time(right, name):
    """The call of this name, which the right has; it is to be of one time."""
    call = _call_within(right, name)
    if call[3] > 1:
        raise NoCall()
    return call


def _call_within(right, name):
    """The call of this name in the right, None where it has none."""
    if right[0] == "call":
        return right if right[1] == name else None
    for part in straight_within(right):
        found = _call_within(part, name)
        if found is not None:
            return found
    return None


def cut_up(right, call, shares):
    """The right with the all of calls of one time, by the shares, in the place of the call."""
    if right == call:
        return ("all", tuple([("call", name, most_each, 1) for name, most_each in shares]))
    return with_straight(right, [cut_up(part, call, shares) for part in straight_within(right)])


def melted(right, which, into):
    """The right with one call in the place of those of these names; None where no all of it has them straight in it."""
    parts = straight_within(right)
    if right[0] == "all":
        calls = [part for part in parts if part[0] == "call" and part[1] in which and part[3] == 1]
        if len(calls) == len(which):
            one = ("call", into, sum([call[2] for call in calls]), 1)
            kept = [part for part in parts if part == calls[0] or part not in calls]
            return ("all", tuple([one if part == calls[0] else part for part in kept]))
    for at, part in enumerate(parts):
        changed = melted(part, which, into)
        if changed is not None:
            return with_straight(right, parts[:at] + (changed,) + parts[at + 1:])
    return None
