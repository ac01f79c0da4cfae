"""The refusals: one class for each, straight beneath TillError.

No message shows a field: a text of a number of thousands of digits is refused by Python itself.
"""


class TillError(ValueError):
    """Any refusal."""


class NoPile(TillError):
    """A thing is no pile."""


class NoRight(TillError):
    """A thing is no right."""


class NoName(TillError):
    """A thing is no name."""


class NoNumber(TillError):
    """A thing is no whole number of the asked size."""


class NoWorths(TillError):
    """A thing is no list of worths."""


class NoParts(TillError):
    """A thing is no list of parts."""


class TooGreat(TillError):
    """A thing is greater than what is looked at."""


class NoTill(TillError):
    """A till isn't there."""


class Taken(TillError):
    """A name stands already."""


class NoPromise(TillError):
    """A promise isn't there."""


class NoPlace(TillError):
    """A place is beyond the last one."""


class NoCall(TillError):
    """A call may not be made; place tells at after how many calls ahead of it may."""

    def __init__(self, place=None):
        TillError.__init__(self, "no such call may be made")
        self.place = place


class NoCoins(TillError):
    """There are too few coins; worth tells of which, the least."""

    def __init__(self, worth):
        TillError.__init__(self, "there are too few coins of a worth")
        self.worth = worth


class NoPay(TillError):
    """An amount can't be paid; rest tells how much of it is left to pay."""

    def __init__(self, rest):
        TillError.__init__(self, "something is left to pay")
        self.rest = rest


class Unserved(TillError):
    """A pile doesn't serve a right; worth tells the least worth at which it fails, None the whole."""

    def __init__(self, worth):
        TillError.__init__(self, "the pile doesn't serve the right")
        self.worth = worth


class Stuck(TillError):
    """A coin can be put nowhere; worth tells which."""

    def __init__(self, worth):
        TillError.__init__(self, "a coin can be put nowhere")
        self.worth = worth
