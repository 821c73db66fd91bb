"""The kinds of plain values that all parts of the package ask for."""

LETTERS = "abcdefghijklmnopqrstuvwxyz"
DIGITS = "0123456789"
LONGEST_NAME = 8


def is_integer(thing):
    # To Python True and False are integers too, to the document they are not.
    return isinstance(thing, int) and not isinstance(thing, bool)


def is_tuple_of_integers(thing, many):
    """Whether thing is a tuple of just so many integers."""
    return isinstance(thing, tuple) and len(thing) == many and all([is_integer(n) for n in thing])


def is_name(thing):
    if not isinstance(thing, str) or not 1 <= len(thing) <= LONGEST_NAME:
        return False
    return thing[0] in LETTERS and all([sign in LETTERS + DIGITS for sign in thing])


def same(thing, value):
    """Whether any value is just this value of tuples, integers, strings and None."""
    # A plain comparison would take True for 1.
    if isinstance(value, tuple):
        if not isinstance(thing, tuple) or len(thing) != len(value):
            return False
        return all([same(part, other) for part, other in zip(thing, value)])
    return thing == value and not isinstance(thing, bool)
