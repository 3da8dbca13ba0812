"""Schemes, and the integers that strings of signed digits stand for."""

from quotientcells.errors import BadDigits, BadNumber, BadScheme
from quotientcells.kinds import as_fraction, is_integer, is_natural, is_pair


def is_scheme(thing):
    """Whether any value is a scheme."""
    if not is_pair(thing):
        return False
    k, a = thing
    if not is_integer(k) or not is_integer(a) or not 1 <= k <= 3:
        return False
    return radix(thing) // 2 <= a <= radix(thing) - 1


def need_scheme(scheme):
    """Raise BadScheme if the value is not a scheme."""
    if not is_scheme(scheme):
        raise BadScheme(scheme)


def radix(scheme):
    """The radix of a scheme."""
    return 1 << scheme[0]


def is_digit(scheme, thing):
    """Whether any value is a digit of the scheme."""
    return is_integer(thing) and abs(thing) <= scheme[1]


def is_string(scheme, thing):
    """Whether any value is a string of the scheme."""
    return isinstance(thing, tuple) and all(is_digit(scheme, digit) for digit in thing)


def need_string(scheme, string):
    """Raise BadDigits if the value is not a string of the scheme."""
    if not is_string(scheme, string):
        raise BadDigits(string)


def bound(scheme):
    """The bound of a scheme, a fraction."""
    need_scheme(scheme)
    return as_fraction(scheme[1], radix(scheme) - 1)


def value(scheme, string):
    """The value of a string of the scheme."""
    need_scheme(scheme)
    need_string(scheme, string)
    total = 0
    for digit in string:
        total = total * radix(scheme) + digit
    return total


def greatest(scheme, m):
    """The greatest value of a string of m digits."""
    need_scheme(scheme)
    if not is_natural(m):
        raise BadNumber(m)
    return _most(scheme, m)


def strings_of(scheme, m, number):
    """The ascending tuple of all strings of m digits with the value number."""
    _need_length_and_number(scheme, m, number)
    begun = [((), number)]
    for left in reversed(range(m)):
        begun = [
            ((*string, digit), later)
            for string, rest in begun
            for digit, later in _continuations(scheme, left, rest)
        ]
    return tuple([string for string, rest in begun if rest == 0])


def many_strings(scheme, m, number):
    """How many strings of m digits have the value number."""
    _need_length_and_number(scheme, m, number)
    # Counts are added up by what is left, since few different rests can still
    # be made up after each digit, while the strings themselves may be many.
    counts = {number: 1}
    for left in reversed(range(m)):
        longer = {}
        for rest, many in counts.items():
            for _, later in _continuations(scheme, left, rest):
                longer[later] = longer.get(later, 0) + many
        counts = longer
    return counts.get(0, 0)


def _need_length_and_number(scheme, m, number):
    """Raise the error of the first argument that is wrong, if one is."""
    need_scheme(scheme)
    if not is_natural(m):
        raise BadNumber(m)
    if not is_integer(number):
        raise BadNumber(number)


def _most(scheme, m):
    """The greatest value of a string of m digits, m being from 0 on."""
    power = 1 << (scheme[0] * m)
    return scheme[1] * (power - 1) // (radix(scheme) - 1)


def _continuations(scheme, left, rest):
    """The next digits for rest, ascending, with what each leaves to `left` digits more.

    Only digits are given whose remaining rest is the value of some string.
    """
    a = scheme[1]
    most = _most(scheme, left)
    found = []
    for digit in range(-a, a + 1):
        later = rest - (digit << (scheme[0] * left))
        if -most <= later <= most:
            found.append((digit, later))
    return found
