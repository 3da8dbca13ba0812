"""Looks, operands and machines, and the digit that a machine selects."""

from quotientcells.digits import is_scheme, is_string, need_scheme, radix
from quotientcells.errors import BadLook, BadMachine, BadNumber, BadOperands
from quotientcells.kinds import is_integer, is_natural, is_pair, is_triple


def is_look(thing):
    """Whether any value is a look."""
    if not is_triple(thing):
        return False
    t, s, kind = thing
    return is_natural(t) and is_natural(s) and is_kind(kind)


def need_look(look):
    """Raise BadLook if the value is not a look."""
    if not is_look(look):
        raise BadLook(look)


def is_kind(thing):
    """Whether any value is one of the two kinds of remainders."""
    return thing in ("one", "pair")


def need_kind(kind):
    """Raise BadNumber if the value is not one of the two kinds."""
    if not is_kind(kind):
        raise BadNumber(kind)


def is_machine(thing):
    """Whether any value is a machine."""
    if not is_triple(thing):
        return False
    scheme, look, table = thing
    if not is_scheme(scheme) or not is_look(look) or not isinstance(table, tuple):
        return False
    # A look may ask for so many rows that their number cannot be worked out.
    if look[1] >= len(table).bit_length() or len(table) != 1 << look[1]:
        return False
    return all(is_row(scheme, row) for row in table)


def is_row(scheme, thing):
    """Whether any value is a row of the scheme."""
    if not is_pair(thing):
        return False
    lowest, string = thing
    return is_integer(lowest) and is_string(scheme, string) and len(string) > 0


def is_machine_of(kind, thing):
    """Whether any value is a machine of the kind."""
    return is_machine(thing) and thing[1][2] == kind


def need_machine(machine):
    """Raise BadMachine if the value is not a machine."""
    if not is_machine(machine):
        raise BadMachine(machine)


def is_operands(scheme, kind, thing):
    """Whether any value is operands of the scheme and kind."""
    need_scheme(scheme)
    need_kind(kind)
    if not is_triple(thing):
        return False
    dividend, d, n = thing
    if not _is_remainder(kind, dividend) or not _is_divisor(d, n):
        return False
    return is_within(scheme, whole(kind, dividend), d)


def is_within(scheme, w, d):
    """Whether the integer w is in bounds for d."""
    return abs(w) * (radix(scheme) - 1) <= scheme[1] * d


def whole(kind, remainder):
    """The integer that a remainder of the kind stands for."""
    return remainder if kind == "one" else remainder[0] + remainder[1]


def estimate(machine, remainder, d, n):
    """The cell (i, y) that a machine sees of a remainder and a divisor."""
    _need_sight(machine, remainder, d, n)
    scheme, look, _ = machine
    return cell_of(scheme, look, remainder, d, n)


def selected(machine, remainder, d, n):
    """The digit that a machine selects, None if there is none."""
    _need_sight(machine, remainder, d, n)
    scheme, look, _ = machine
    return digit_at(machine, cell_of(scheme, look, remainder, d, n))


def cell_of(scheme, look, remainder, d, n):
    """The cell of a remainder and a divisor of the width n."""
    t, s, kind = look
    i = ((d << s) >> n) - (1 << s)
    words = (remainder,) if kind == "one" else remainder
    # Each word is cut off by itself: adding them first would need a carry.
    y = sum((word << (scheme[0] + t)) >> n for word in words)
    return (i, y)


def digit_at(machine, cell):
    """The digit of the machine's table for a cell, None if there is none."""
    i, y = cell
    lowest, string = machine[2][i]
    at = y - lowest
    return string[at] if 0 <= at < len(string) else None


def _need_sight(machine, remainder, d, n):
    """Raise the error of the first argument that is wrong, if one is."""
    need_machine(machine)
    kind = machine[1][2]
    if not _is_remainder(kind, remainder) or not _is_divisor(d, n):
        raise BadOperands((remainder, d, n))


def _is_remainder(kind, thing):
    """Whether any value is a remainder of the kind, in bounds or not."""
    if kind == "one":
        return is_integer(thing)
    return is_pair(thing) and is_integer(thing[0]) and is_integer(thing[1])


def _is_divisor(d, n):
    """Whether any two values are the top d of a divisor and a width n."""
    if not is_integer(d) or not is_integer(n):
        return False
    # Bits are counted since 2 ** n is out of reach for a great n.
    return n >= 1 and d > 0 and d.bit_length() == n + 1
