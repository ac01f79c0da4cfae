"""What rights allow, told otherwise than the program tells it."""

import functools
import random

from blindtill.most import longest, most
from blindtill.piles import less, whole
from blindtill.rights import behind, may
from things import A, B, C

NONE = ("none",)


def one_form_around(right, other):
    """The right within each form, beside another one where the form takes several."""
    return [("all", (right,)), ("all", (right, other)), ("all", (other, NONE, right)), ("one", (right,)),
            ("one", (right, other)), ("one", (NONE, other, right)), ("within", 2, right), ("within", 4, right),
            ("within", 9, right), ("calls", 1, right), ("calls", 2, right), ("calls", 5, right)]


def rights_of_two_forms():
    """Each form within each other one, trimmed or not."""
    inner = [NONE, ("all", ()), ("one", ()), A, ("all", (A, B)), ("one", (A, B)), ("one", (A, NONE, ("all", (B,))))]
    inner += [("within", 3, A), ("calls", 1, A), ("within", 4, ("all", (A, B))), ("calls", 2, ("all", (A, B)))]
    once = [right for part in inner for right in one_form_around(part, C)]
    other = ("call", "d", 2, 1)
    return inner + once + [right for part in once[::2] for right in one_form_around(part, other)]


def parts_of(right):
    if right[0] in ("all", "one"):
        return list(right[1])
    return [right[2]] if right[0] in ("within", "calls") else []


def names_in(right):
    if right[0] == "call":
        return [right[1]]
    return [name for part in parts_of(right) for name in names_in(part)]


def is_run(right, run):
    """Whether a list of calls is a run, told of all its calls at once: not call by call as the program goes."""
    kind = right[0]
    if kind == "none":
        return run == []
    if kind == "call":
        return len(run) <= right[3] and all(name == right[1] and 1 <= amount <= right[2] for name, amount in run)
    if kind == "within":
        return sum(amount for _, amount in run) <= right[1] and is_run(right[2], run)
    if kind == "calls":
        return len(run) <= right[1] and is_run(right[2], run)
    shares = [[call for call in run if call[0] in names_in(part)] for part in right[1]]
    if sum(len(share) for share in shares) < len(run):
        return False
    if kind == "one" and len([share for share in shares if share]) > 1:
        return False
    return all(is_run(part, share) for part, share in zip(right[1], shares))


def all_runs(right, longest, amounts):
    """All runs of so many calls at most."""
    calls = [(name, amount) for name in names_in(right) for amount in amounts]
    runs = [[]]
    for run in runs:
        if len(run) < longest:
            runs.extend(run + [call] for call in calls if is_run(right, run + [call]))
    return runs


def any_right(rand, deep, names, greatest, times):
    """A right by chance, at most so deep, of names that it takes off the list, of mosts and times up to these."""
    forms = ("all", "all", "one", "one", "within", "calls", "call", "none") if deep > 1 else ("call", "call", "none")
    form = rand.choice(forms)
    if form in ("all", "one"):
        count = rand.randint(0, 4)
        return (form, tuple(any_right(rand, deep - 1, names, greatest, times) for _ in range(count)))
    if form in ("within", "calls"):
        bound = rand.randint(1, 2 * (greatest if form == "within" else times))
        return (form, bound, any_right(rand, deep - 1, names, greatest, times))
    if form == "call" and names:
        return ("call", names.pop(0), rand.randint(1, greatest), rand.randint(1, times))
    return NONE


def any_rights(seed, count, names, greatest, times):
    """So many rights by chance, always the same ones, of up to these names."""
    rand = random.Random(seed)
    return [any_right(rand, rand.randint(2, 5), list(names), greatest, times) for _ in range(count)]


def mosts_in(right):
    """The mosts of the calls and of the withins of a right."""
    own = [right[2]] if right[0] == "call" else [right[1]] if right[0] == "within" else []
    return own + [number for part in parts_of(right) for number in mosts_in(part)]


def times_in(right):
    """How many calls a right has in all, whatever bounds stand in it."""
    return right[3] if right[0] == "call" else sum(times_in(part) for part in parts_of(right))


def next_calls(right, below=None):
    """The calls that may be made, each less than below."""
    calls = []
    for name in names_in(right):
        greatest = may(right, name) if below is None else min(may(right, name), below - 1)
        calls += [(name, amount) for amount in range(1, greatest + 1)]
    return calls


@functools.lru_cache(maxsize=None)
def most_by_runs(right, below=None, calls=None):
    """The greatest sum of a run, each run gone through call by call."""
    if calls == 0:
        return 0
    fewer = None if calls is None else calls - 1
    return max([amount + most_by_runs(behind(right, name, amount), below, fewer)
                for name, amount in next_calls(right, below)], default=0)


@functools.lru_cache(maxsize=None)
def longest_by_runs(right):
    """How many calls the longest run has, of calls of 1: a run with lesser calls in their places is a run."""
    return max([1 + longest_by_runs(behind(right, name, 1)) for name in names_in(right) if may(right, name) > 0],
               default=0)


def most_by_tables(right, below, calls):
    """A list of the mosts for 0 calls to so many, by the words of point [10]."""
    kind = right[0]
    if kind == "none":
        return [0] * (calls + 1)
    if kind == "call":
        each = right[2] if below is None else min(right[2], below - 1)
        return [min(right[3], count) * each for count in range(calls + 1)]
    tables = [most_by_tables(part, below, calls) for part in parts_of(right)]
    if kind == "one":
        return [max([table[count] for table in tables], default=0) for count in range(calls + 1)]
    if kind == "within":
        return [min(right[1], most) for most in tables[0]]
    if kind == "calls":
        return [tables[0][min(right[1], count)] for count in range(calls + 1)]
    shared = [0] * (calls + 1)
    for table in tables:
        shared = [max(shared[count - first] + table[first] for first in range(count + 1))
                  for count in range(calls + 1)]
    return shared


def renamed(right, letter):
    """The right with this letter ahead of each name."""
    if right[0] == "call":
        return ("call", letter + right[1], right[2], right[3])
    if right[0] in ("all", "one"):
        return (right[0], tuple(renamed(part, letter) for part in right[1]))
    return right[:2] + (renamed(right[2], letter),) if right[0] in ("within", "calls") else right


def all_of(*rights):
    """The all of these rights, each with names of its own."""
    return ("all", tuple(renamed(right, "abcdefghijklmnopqrstuvwxyz"[at]) for at, right in enumerate(rights)))


def fails_at(pile, right):
    """The worths above 1 of the pile, then None for the whole, at which it doesn't serve the right."""
    worths = [worth for worth, _ in pile if worth > 1 and most(right, below=worth) > less(pile, worth)]
    return worths + [None] * (most(right) > whole(pile))


def chance_rights(seed, greatest_sum=9, calls=4, names="abc", greatest=4, times=2, count=150):
    """Rights of two forms and by chance, of sums and of counts of calls up to these."""
    rights = rights_of_two_forms()[::5] + any_rights(seed, count, names, greatest, times)
    return [right for right in rights if most(right) <= greatest_sum and longest(right) <= calls]
