"""Binary numbers, and their quotients rounded to p bits."""

from quotientcells.errors import BadMachine, BadNumber
from quotientcells.judge import finished, is_right
from quotientcells.kinds import is_count, is_fraction, is_integer, is_pair
from quotientcells.machines import is_machine_of
from quotientcells.rounding import nearest, need_mode


def is_binary(thing):
    """Whether any value is a binary number."""
    if not is_pair(thing):
        return False
    m, e = thing
    if not is_integer(m) or not is_integer(e):
        return False
    return m % 2 == 1 or (m == 0 and e == 0)


def to_bits(fraction, p, mode):
    """The fraction, rounded to p bits, as a binary number."""
    if not is_fraction(fraction):
        raise BadNumber(fraction)
    if not is_count(p):
        raise BadNumber(p)
    need_mode(mode)
    top, bottom = fraction
    return _binary(top, bottom, 0, p, mode)


def quotient(machine, one, other, p, mode):
    """The quotient of two binary numbers that a right machine finds, rounded to p bits."""
    if not is_machine_of("one", machine) or not is_right(machine):
        raise BadMachine(machine)
    if not is_binary(one):
        raise BadNumber(one)
    if not is_binary(other) or other == (0, 0):
        raise BadNumber(other)
    if not is_count(p):
        raise BadNumber(p)
    need_mode(mode)
    whole, e = _sizes_divided(machine, one, other, p)
    negative = (one[0] < 0) != (other[0] < 0)
    return _binary(-whole if negative else whole, 1, e, p, mode)


def _sizes_divided(machine, one, other, p):
    """A pair (whole, e): whole * 2 ** e rounds to p bits as the quotient of the sizes does."""
    x, d = abs(one[0]), abs(other[0])
    k = machine[0][0]
    # What is at most half of the divisor is in bounds in every scheme.
    n = max(x.bit_length() + 1, d.bit_length() - 1)
    up, down = n - 1 - x.bit_length(), n + 1 - d.bit_length()
    # The dividend, if it is not 0, is above an eighth of the divisor, so that
    # with these steps the quotient has more than p bits.
    steps = -(-(p + 3) // k)
    found, w = finished(machine, (x << up, d << down, n), steps)
    # One bit more says whether anything is left. It stands behind the place
    # that tells halves, since the quotient has a bit more than is wanted.
    whole = 2 * found + (1 if w > 0 else 0)
    return (whole, one[1] - other[1] + down - up - k * steps - 1)


def _binary(top, bottom, e, p, mode):
    """The binary number to which top / bottom * 2 ** e is rounded with p bits."""
    if top == 0:
        return (0, 0)
    place = _last_place(abs(top), bottom, p)
    m = nearest(top << max(0, -place), bottom << max(0, place), mode)
    e += place
    while m % 2 == 0:
        m //= 2
        e += 1
    return (m, e)


def _last_place(top, bottom, p):
    """The e for which top / bottom / 2 ** e is from 2 ** (p - 1) to below 2 ** p."""
    # The quotient has as many bits before the point as the lengths differ by, or one more.
    places = top.bit_length() - bottom.bit_length()
    if top << max(0, -places) >= bottom << max(0, places):
        places += 1
    return places - p
