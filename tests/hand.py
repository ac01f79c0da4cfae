"""A house kept by hand, by the words of points [35] to [38]: each deed tells what the house is to tell."""

from blindtill.clerk import pay
from blindtill.errors import (
    NoCall, NoCoins, NoName, NoNumber, NoParts, NoPile, NoPromise, NoRight, NoTill, Stuck, Taken, TooGreat)
from blindtill.most import most
from blindtill.parting import parted
from blindtill.piles import is_pile, less, put, take, whole
from blindtill.rights import behind, is_name, is_right, may
from blindtill.serving import serves
from runs import NONE, names_in, parts_of
from things import told, unserved
from ways import pile_of


def is_whole(thing, least):
    return type(thing) is int and thing >= least


def depth(right):
    return 1 + max([depth(part) for part in parts_of(right)], default=0)


def trim(right):
    """The right trimmed, however deep it lies."""
    if right[0] in ("within", "calls"):
        inner = trim(right[2])
        return NONE if inner == NONE else (right[0], right[1], inner)
    if right[0] not in ("all", "one"):
        return right
    kept = []
    for part in map(trim, right[1]):
        kept += list(part[1]) if part[0] == right[0] else [] if part == NONE else [part]
    return NONE if not kept else kept[0] if len(kept) == 1 else (right[0], tuple(kept))


def changed(right, change):
    """The right with what change tells of each part in its place, the inner ones first."""
    if right[0] in ("all", "one"):
        right = (right[0], tuple(changed(part, change) for part in right[1]))
    elif right[0] in ("within", "calls"):
        right = (right[0], right[1], changed(right[2], change))
    return change(right)


def calls_in(right):
    return [right] if right[0] == "call" else [call for part in parts_of(right) for call in calls_in(part)]


def all_of_rows(rows):
    return trim(("all", tuple(right for _, right in rows)))


def fails_at(pile, rows):
    """The worths at which the pile doesn't serve all of these promises, which may lie too deep to be one right."""
    def need(below):
        return sum(most(right, below=below) for _, right in rows)
    worths = [worth for worth, _ in pile if worth > 1 and need(worth) > less(pile, worth)]
    return worths + [None] * (need(None) > whole(pile))


def first_due(*rows):
    """The first refusal whose case is so; the later ones aren't looked at."""
    for case, refusal in rows:
        if case():
            return (refusal, {}) if isinstance(refusal, type) else refusal() if callable(refusal) else refusal
    return None


class HandHouse:
    """Each deed tells its answer, or the refusal's class and fields."""

    def __init__(self):
        self.tills = {}
        self.seen = []
        self.flow = [0, 0, 0]

    def promise_names(self):
        return [name for _, rows in self.tills.values() for name, _ in rows]

    def call_names(self):
        return [name for _, rows in self.tills.values() for _, right in rows for name in names_in(right)]

    def row_with(self, till, call):
        """The place of the till's promise that has the call, None where there is none."""
        places = [at for at, (_, right) in enumerate(self.tills[till][1]) if call in names_in(right)]
        return places[0] if places else None

    def row_named(self, till, name):
        places = [at for at, (promise, _) in enumerate(self.tills[till][1]) if promise == name]
        return places[0] if places else None

    def with_row(self, till, at, right):
        """The till's promises with another right in this place; the promise goes where it is none."""
        rows = list(self.tills[till][1])
        rows[at] = (rows[at][0], trim(right))
        return [row for row in rows if row[1] != NONE]

    def keep(self, pile, rows):
        """The refusal of a till that would be so, or None: TooGreat ahead of Unserved."""
        return self.too_great(pile, rows) or self.unserved(pile, rows)

    def too_great(self, pile, rows):
        right = all_of_rows(rows)
        great = (len(names_in(right)) > 12, len(rows) > 12, depth(right) > 6, whole(pile) > 10 ** 12)
        return (TooGreat, {}) if any(great) else None

    def unserved(self, pile, rows):
        failing = fails_at(pile, rows)
        return unserved(failing[0]) if failing else None

    def new(self, till, pile):
        refusal = first_due(
            (lambda: not is_name(till), NoName), (lambda: not is_pile(pile), NoPile),
            (lambda: till in self.tills, Taken),
            (lambda: whole(pile) > 10 ** 12, TooGreat))
        if refusal is None:
            self.tills[till] = (pile, [])
            self.flow[0] += whole(pile)
        return refusal

    def bring(self, till, pile):
        refusal = first_due(
            (lambda: not is_name(till), NoName), (lambda: not is_pile(pile), NoPile),
            (lambda: till not in self.tills, NoTill),
            (lambda: whole(put(self.tills[till][0], pile)) > 10 ** 12, TooGreat))
        if refusal is None:
            self.tills[till] = (put(self.tills[till][0], pile), self.tills[till][1])
            self.flow[0] += whole(pile)
        return refusal

    def promise(self, till, name, right):
        refusal = first_due(
            (lambda: not is_name(till), NoName), (lambda: not is_name(name), NoName),
            (lambda: not is_right(right), NoRight),
            (lambda: till not in self.tills, NoTill), (lambda: name in self.promise_names(), Taken),
            (lambda: any(call in self.call_names() for call in names_in(right)), Taken))
        if refusal is not None or trim(right) == NONE:
            return refusal
        pile, rows = self.tills[till]
        rows = rows + [(name, trim(right))]
        refusal = self.keep(pile, rows)
        if refusal is None:
            self.tills[till] = (pile, rows)
        return refusal

    def call(self, till, name, amount):
        refusal = first_due(
            (lambda: not is_name(till), NoName), (lambda: not is_name(name), NoName),
            (lambda: not is_whole(amount, 1), NoNumber), (lambda: till not in self.tills, NoTill),
            (lambda: self.row_with(till, name) is None, (NoCall, {"place": None})),
            (lambda: may(self.tills[till][1][self.row_with(till, name)][1], name) < amount, (NoCall, {"place": None})))
        if refusal is not None:
            return refusal
        pile, rows = self.tills[till]
        at = self.row_with(till, name)
        paying = pay(pile, amount)
        self.tills[till] = (take(pile, paying), self.with_row(till, at, behind(rows[at][1], name, amount)))
        self.seen.append((till, amount))
        self.flow[1] += amount
        return paying

    def lapse(self, till, name):
        refusal = first_due(
            (lambda: not is_name(till), NoName), (lambda: not is_name(name), NoName),
            (lambda: till not in self.tills, NoTill),
            (lambda: self.row_with(till, name) is None, (NoCall, {"place": None})))
        if refusal is None:
            at = self.row_with(till, name)
            left = changed(self.tills[till][1][at][1], lambda part: NONE if part[:2] == ("call", name) else part)
            self.tills[till] = (self.tills[till][0], self.with_row(till, at, left))
        return refusal

    def end(self, till, name):
        refusal = first_due(
            (lambda: not is_name(till), NoName), (lambda: not is_name(name), NoName),
            (lambda: till not in self.tills, NoTill), (lambda: self.row_named(till, name) is None, NoPromise))
        if refusal is None:
            self.tills[till] = (self.tills[till][0], [row for row in self.tills[till][1] if row[0] != name])
        return refusal

    def would(self, till, right):
        refusal = first_due(
            (lambda: not is_name(till), NoName), (lambda: not is_right(right), NoRight),
            (lambda: till not in self.tills, NoTill))
        if refusal is not None:
            return refusal
        pile, rows = self.tills[till]
        return fails_at(pile, rows + [("other", right)]) == []

    def cut(self, till, name, others):
        def is_share(thing):
            return isinstance(thing, tuple) and len(thing) == 2 and is_name(thing[0]) and is_whole(thing[1], 1)

        refusal = first_due(
            (lambda: not is_name(till), NoName), (lambda: not is_name(name), NoName),
            (lambda: not isinstance(others, list) or len(others) < 2 or not all(map(is_share, others)), NoParts),
            (lambda: till not in self.tills, NoTill),
            (lambda: any(other in self.call_names() and other != name for other, _ in others), Taken),
            (lambda: len({other for other, _ in others}) < len(others), Taken),
            (lambda: self.row_with(till, name) is None, (NoCall, {"place": None})),
            (lambda: self.own_call(till, name)[3] > 1, (NoCall, {"place": None})))
        if refusal is not None:
            return refusal
        pile, rows = self.tills[till]
        call = self.own_call(till, name)
        shared = ("all", tuple(("call", other, amount, 1) for other, amount in others))
        at = self.row_with(till, name)
        rows = self.with_row(till, at, changed(rows[at][1], lambda part: shared if part == call else part))
        refusal = first_due(
            (lambda: self.too_great(pile, rows), TooGreat),
            (lambda: sum(amount for _, amount in others) != call[2], NoParts),
            (lambda: self.unserved(pile, rows), lambda: self.unserved(pile, rows)))
        if refusal is None:
            self.tills[till] = (pile, rows)
        return refusal

    def own_call(self, till, name):
        right = self.tills[till][1][self.row_with(till, name)][1]
        return [call for call in calls_in(right) if call[1] == name][0]

    def melt(self, till, which, into):
        refusal = first_due(
            (lambda: not is_name(till), NoName),
            (lambda: not isinstance(which, list) or len(which) < 2 or not all(map(is_name, which)), NoParts),
            (lambda: len(set(which)) < len(which), NoParts), (lambda: not is_name(into), NoName),
            (lambda: till not in self.tills, NoTill),
            (lambda: into in self.call_names() and into not in which, Taken),
            (lambda: self.standing_all(till, which) is None, (NoCall, {"place": None})))
        if refusal is not None:
            return refusal
        pile, rows = self.tills[till]
        at, found = self.standing_all(till, which)
        melting = [part for part in found[1] if part[0] == "call" and part[1] in which]
        one = ("call", into, sum(part[2] for part in melting), 1)
        new = ("all", tuple(one if part == melting[0] else part for part in found[1] if part not in melting[1:]))
        rows = self.with_row(till, at, changed(rows[at][1], lambda part: new if part == found else part))
        refusal = self.keep(pile, rows)
        if refusal is None:
            self.tills[till] = (pile, rows)
        return refusal

    def standing_all(self, till, which):
        """The place of the promise, and its all, in which all of these calls stand straight, each of one time."""
        for at, (_, right) in enumerate(self.tills[till][1]):
            alls = []
            changed(right, lambda part: alls.append(part) or part if part[0] == "all" else part)
            for found in alls:
                straight = [part[1] for part in found[1] if part[0] == "call" and part[3] == 1]
                if all(name in straight for name in which):
                    return at, found
        return None

    def break_coin(self, till, worth, parts):
        refusal = first_due(
            (lambda: not is_name(till), NoName), (lambda: not is_whole(worth, 1), NoNumber),
            (lambda: not isinstance(parts, list) or len(parts) < 2, NoParts),
            (lambda: not all(is_whole(part, 1) for part in parts) or sum(parts) != worth, NoParts),
            (lambda: till not in self.tills, NoTill),
            (lambda: worth not in dict(self.tills[till][0]), (NoCoins, {"worth": worth})))
        if refusal is None:
            pile, rows = self.tills[till]
            self.tills[till] = (put(take(pile, ((worth, 1),)), pile_of(parts)), rows)
        return refusal

    def lend(self, till, pile):
        refusal = first_due(
            (lambda: not is_name(till), NoName), (lambda: not is_pile(pile), NoPile),
            (lambda: till not in self.tills, NoTill),
            (lambda: self.lacking(till, pile), lambda: (NoCoins, {"worth": self.lacking(till, pile)[0]})))
        if refusal is not None:
            return refusal
        own, rows = self.tills[till]
        left = take(own, pile)
        refusal = self.unserved(left, rows)
        if refusal is None:
            self.tills[till] = (left, rows)
            self.flow[2] += whole(pile)
        return refusal

    def lacking(self, till, pile):
        """The worths of which the till has too few coins."""
        return [worth for worth, many in pile if dict(self.tills[till][0]).get(worth, 0) < many]

    def unite(self, till, other):
        refusal = first_due(
            (lambda: not is_name(till), NoName), (lambda: not is_name(other), NoName),
            (lambda: till not in self.tills or other not in self.tills or till == other, NoTill))
        if refusal is not None:
            return refusal
        (pile, rows), (others_pile, others_rows) = self.tills[till], self.tills[other]
        refusal = self.too_great(put(pile, others_pile), rows + others_rows)
        if refusal is None:
            self.tills[till] = (put(pile, others_pile), rows + others_rows)
            del self.tills[other]
        return refusal

    def part(self, till, other, worth, which):
        def rows_are_there():
            names = [name for name, _ in self.tills[till][1]]
            return isinstance(which, list) and all(name in names for name in which) and len(set(which)) == len(which)

        refusal = first_due(
            (lambda: not is_name(till), NoName), (lambda: not is_name(other), NoName),
            (lambda: not is_whole(worth, 0), NoNumber), (lambda: till not in self.tills, NoTill),
            (lambda: other in self.tills, Taken), (lambda: not rows_are_there(), NoPromise),
            (lambda: whole(self.tills[till][0]) > 200, TooGreat))
        if refusal is not None:
            return refusal
        pile, rows = self.tills[till]
        going = [rows[self.row_named(till, name)] for name in which]
        staying = [row for row in rows if row[0] not in which]
        if whole(pile) - worth < most(all_of_rows(staying)) or worth < most(all_of_rows(going)):
            return (Stuck, {"worth": None})
        answer = told(parted, pile, [(whole(pile) - worth, all_of_rows(staying)), (worth, all_of_rows(going))])
        if isinstance(answer, tuple):
            return answer
        self.tills[till] = (answer[0], staying)
        self.tills[other] = (answer[1], going)
        return None

    def carry(self, till, other, name):
        refusal = first_due(
            (lambda: not is_name(till), NoName), (lambda: not is_name(other), NoName),
            (lambda: not is_name(name), NoName),
            (lambda: till not in self.tills or other not in self.tills or till == other, NoTill),
            (lambda: self.row_named(till, name) is None, NoPromise))
        if refusal is not None:
            return refusal
        (pile, rows), (others_pile, others_rows) = self.tills[till], self.tills[other]
        row = rows[self.row_named(till, name)]
        refusal = self.keep(others_pile, others_rows + [row])
        if refusal is None:
            self.tills[till] = (pile, [each for each in rows if each != row])
            self.tills[other] = (others_pile, others_rows + [row])
        return refusal

    def is_whole_and_served(self):
        """Whether each till serves its right, and no name stands twice."""
        calls, promises = self.call_names(), self.promise_names()
        alike = len(set(calls)) < len(calls) or len(set(promises)) < len(promises)
        return not alike and all(serves(pile, all_of_rows(rows)) for pile, rows in self.tills.values())
