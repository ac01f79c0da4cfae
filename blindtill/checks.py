"""What several files ask of the numbers that they are handed, and what is small."""

from blindtill.errors import NoNumber

SMALL = 200


def is_number(thing, least):
    """Whether this is a whole number from least on."""
    # True and False are integers to Python, but no numbers here.
    return isinstance(thing, int) and not isinstance(thing, bool) and thing >= least


def check_number(thing, least):
    """Refuse what is no whole number from least on."""
    if not is_number(thing, least):
        raise NoNumber()


def check_bound(thing, least):
    """Refuse what is neither None, which bounds nothing, nor a whole number from least on."""
    if thing is not None:
        check_number(thing, least)
