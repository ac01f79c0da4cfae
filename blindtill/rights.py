"""Rights to call on a till, and what is left of them behind calls."""

from blindtill.checks import check_number, is_number
from blindtill.errors import NoCall, NoName, NoRight

MOST_LETTERS = 8
MOST_DEEP = 6
NONE = ("none",)
FORM_LENGTHS = {"none": 1, "call": 4, "all": 2, "one": 2, "within": 3, "calls": 3}


def is_name(thing):
    """Whether this is a name."""
    if not isinstance(thing, str) or not 1 <= len(thing) <= MOST_LETTERS:
        return False
    return all("a" <= letter <= "z" for letter in thing)


def check_name(thing):
    """Refuse what is no name."""
    if not is_name(thing):
        raise NoName()


def is_right(thing):
    """Whether this is a right."""
    return _is_new_right(thing, MOST_DEEP, {})


def _is_new_right(thing, deep, seen):
    """Whether this is a right, at most so deep, of names that aren't seen yet; it adds its names to these."""
    # Nothing deeper is looked at, so that a thing of any depth is told of.
    if deep == 0 or not _has_form(thing):
        return False
    if thing[0] == "call":
        return _is_new_call(thing, seen)
    if thing[0] in ("all", "one") and not isinstance(thing[1], tuple):
        return False
    if thing[0] in ("within", "calls") and not is_number(thing[1], 1):
        return False
    for part in straight_within(thing):
        if not _is_new_right(part, deep - 1, seen):
            return False
    return True


def _has_form(thing):
    """Whether this is a tuple of a form's word and as many things as that form has."""
    if not isinstance(thing, tuple) or not thing or not isinstance(thing[0], str):
        return False
    return FORM_LENGTHS.get(thing[0], 0) == len(thing)


def _is_new_call(thing, seen):
    _, name, most, times = thing
    if not is_name(name) or name in seen:
        return False
    seen[name] = True
    return is_number(most, 1) and is_number(times, 1)


def check_right(thing):
    """Refuse what is no right."""
    if not is_right(thing):
        raise NoRight()


def straight_within(right):
    """The tuple of the rights that stand straight within the right."""
    if right[0] in ("all", "one"):
        return right[1]
    if right[0] in ("within", "calls"):
        return (right[2],)
    return ()


def with_straight(right, rights):
    """The right with these rights straight within it, in the place of its own."""
    if right[0] in ("all", "one"):
        return (right[0], tuple(rights))
    if right[0] in ("within", "calls"):
        return (right[0], right[1], rights[0])
    return right


def depth(right):
    """How deep what is known to be a right lies."""
    return 1 + max([depth(part) for part in straight_within(right)], default=0)


def names(right):
    """The list of the names of the right's calls, as they stand."""
    check_right(right)
    return names_within(right)


def names_within(right):
    """What names tells of what is known to be a right."""
    if right[0] == "call":
        return [right[1]]
    return [name for part in straight_within(right) for name in names_within(part)]


def may(right, name):
    """The greatest amount that may be called by the name, 0 where no call has it."""
    check_right(right)
    check_name(name)
    return _may_within(right, name)


def _may_within(right, name):
    if right[0] == "call":
        return right[2] if right[1] == name else 0
    # No name stands twice, so at most one of these is above 0.
    greatest = max([_may_within(part, name) for part in straight_within(right)], default=0)
    return min(greatest, right[1]) if right[0] == "within" else greatest


def behind(right, name, amount):
    """The right behind a call of this amount by the name."""
    check_right(right)
    check_name(name)
    check_number(amount, 1)
    if amount > _may_within(right, name):
        raise NoCall()
    return trim(_rest(right, name, amount))


def _rest(right, name, amount):
    """What a call that may be made leaves of the right that has it, not trimmed."""
    kind = right[0]
    if kind == "call":
        return ("call", name, right[2], right[3] - 1) if right[3] > 1 else NONE
    if kind == "all":
        return ("all", tuple([_rest(part, name, amount) if name in names_within(part) else part
                              for part in right[1]]))
    if kind == "one":
        chosen = [part for part in right[1] if name in names_within(part)]
        return _rest(chosen[0], name, amount)
    left = right[1] - (amount if kind == "within" else 1)
    return (kind, left, _rest(right[2], name, amount)) if left > 0 else NONE


def lapse(right, name):
    """The right without the call of the name and all its times."""
    check_right(right)
    check_name(name)
    if name not in names_within(right):
        raise NoCall()
    return lapsed(right, name)


def lapsed(right, name):
    """What lapse tells of what are known to be a right and one of its calls' names."""
    return trim(_without(right, name))


def _without(right, name):
    if right[0] == "call":
        return NONE if right[1] == name else right
    return with_straight(right, [_without(part, name) for part in straight_within(right)])


def trimmed(right):
    """The right without what stands in it for nothing."""
    check_right(right)
    return trim(right)


def trim(right):
    """What trimmed tells of what is known to be a right, or would be one if it lay less deep."""
    rights = [trim(part) for part in straight_within(right)]
    if right[0] in ("all", "one"):
        return _gathered(right[0], rights)
    if right[0] in ("within", "calls") and rights[0] == NONE:
        return NONE
    return with_straight(right, rights)


def _gathered(kind, rights):
    """The trimmed all or one of rights that are trimmed themselves."""
    kept = []
    for right in rights:
        if right[0] == kind:
            kept.extend(right[1])
        elif right != NONE:
            kept.append(right)
    if not kept:
        return NONE
    return kept[0] if len(kept) == 1 else (kind, tuple(kept))


def after(right, run):
    """The right behind all calls of the run, in their order."""
    check_right(right)
    if not isinstance(run, list):
        raise NoCall(0)
    left = right
    for place, thing in enumerate(run):
        if not _may_be_made(left, thing):
            raise NoCall(place)
        left = trim(_rest(left, thing[0], thing[1]))
    return trim(left)


def _may_be_made(right, thing):
    """Whether this is a call that the right allows."""
    if not isinstance(thing, tuple) or len(thing) != 2:
        return False
    name, amount = thing
    return is_name(name) and is_number(amount, 1) and amount <= _may_within(right, name)
