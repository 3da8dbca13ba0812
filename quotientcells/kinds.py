"""The plain kinds of values that all parts of the package ask for."""

from math import gcd


def is_integer(thing):
    """Whether any value is an integer."""
    # Python counts True and False as ints; here they are not integers.
    return isinstance(thing, int) and not isinstance(thing, bool)


def is_natural(thing):
    """Whether any value is an integer from 0 on."""
    return is_integer(thing) and thing >= 0


def is_count(thing):
    """Whether any value is an integer from 1 on."""
    return is_integer(thing) and thing >= 1


def is_pair(thing):
    """Whether any value is a tuple of two items."""
    return isinstance(thing, tuple) and len(thing) == 2


def is_triple(thing):
    """Whether any value is a tuple of three items."""
    return isinstance(thing, tuple) and len(thing) == 3


def is_fraction(thing):
    """Whether any value is a fraction."""
    if not is_pair(thing):
        return False
    top, bottom = thing
    if not is_integer(top) or not is_integer(bottom):
        return False
    return bottom > 0 and gcd(top, bottom) == 1


def as_fraction(top, bottom):
    """The fraction of an integer and one above 0."""
    common = gcd(top, bottom)
    return (top // common, bottom // common)
