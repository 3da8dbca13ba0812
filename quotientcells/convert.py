"""The conversion of signed digits to ordinary ones, a digit a step, without carries."""

from quotientcells.digits import is_digit, need_scheme, need_string, radix
from quotientcells.errors import BadDigits
from quotientcells.kinds import is_integer, is_pair


def registers(scheme, string):
    """The registers after a string of the scheme."""
    need_scheme(scheme)
    need_string(scheme, string)
    pair = ((), ())
    for digit in string:
        pair = _after(scheme, pair, digit)
    return pair


def appended(scheme, pair, digit):
    """The registers after one digit more."""
    need_scheme(scheme)
    if not _is_pair_of_ordinary(scheme, pair):
        raise BadDigits(pair)
    if not is_digit(scheme, digit):
        raise BadDigits(digit)
    return _after(scheme, pair, digit)


def _is_pair_of_ordinary(scheme, thing):
    """Whether any value is a pair of tuples of ordinary digits of the same length."""
    if not is_pair(thing):
        return False
    one, other = thing
    if not _is_ordinary(scheme, one) or not _is_ordinary(scheme, other):
        return False
    return len(one) == len(other)


def _is_ordinary(scheme, thing):
    """Whether any value is a tuple of ordinary digits of the scheme's radix."""
    if not isinstance(thing, tuple):
        return False
    return all(is_integer(digit) and 0 <= digit < radix(scheme) for digit in thing)


def _after(scheme, pair, digit):
    """The registers that the digit makes of a pair of them."""
    whole, less = pair
    r = radix(scheme)
    # What would need a borrow is appended to the value minus 1, in which the
    # borrow is done already: no digit that stands there ever changes.
    new_whole = (*whole, digit) if digit >= 0 else (*less, r + digit)
    new_less = (*whole, digit - 1) if digit > 0 else (*less, r - 1 + digit)
    return (new_whole, new_less)
