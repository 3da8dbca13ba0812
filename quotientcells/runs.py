"""Runs of a machine: the digits that it selects and the remainders that they leave."""

from quotientcells.digits import need_scheme
from quotientcells.errors import BadNumber, BadOperands
from quotientcells.kinds import is_count, is_integer, is_natural
from quotientcells.machines import cell_of, digit_at, is_operands, is_within, need_machine


def reduced(u, v, z):
    """Two words with the sum of three, found without carries."""
    for word in (u, v, z):
        if not is_integer(word):
            raise BadNumber(word)
    return _without_carries(u, v, z)


def run(machine, operands, m):
    """The digits of a run with m steps, and the last remainder."""
    need_run(machine, operands, m)
    string, passed = _followed(machine, operands, m)
    return (tuple(string), passed[-1])


def remainders(machine, operands, m):
    """The dividend and the remainders after each step of a run."""
    need_run(machine, operands, m)
    _, passed = _followed(machine, operands, m)
    return tuple(passed)


def is_in_bounds(scheme, w, d):
    """Whether w is in bounds for d."""
    need_scheme(scheme)
    if not is_integer(w):
        raise BadNumber(w)
    if not is_count(d):
        raise BadNumber(d)
    return is_within(scheme, w, d)


def need_run(machine, operands, m):
    """Raise the error of the first argument that is wrong, if one is."""
    need_machine(machine)
    scheme, look, _ = machine
    need_start(scheme, look[2], operands, m)


def need_start(scheme, kind, operands, m):
    """Raise the error of the operands, or else that of the number of steps, if one is wrong."""
    if not is_operands(scheme, kind, operands):
        raise BadOperands(operands)
    if not is_natural(m):
        raise BadNumber(m)


def _followed(machine, operands, m):
    """The list of the digits of a run, and that of the dividend and the remainders."""
    scheme, look, _ = machine
    remainder, d, n = operands
    string = []
    passed = [remainder]
    for _ in range(m):
        digit = digit_at(machine, cell_of(scheme, look, remainder, d, n))
        if digit is None:
            break
        remainder = _stepped(scheme, look[2], remainder, digit * d)
        string.append(digit)
        passed.append(remainder)
    return (string, passed)


def _stepped(scheme, kind, remainder, multiple):
    """The remainder after a step that takes away a multiple of the divisor."""
    k = scheme[0]
    if kind == "one":
        return (remainder << k) - multiple
    p, c = remainder
    return _without_carries(p << k, c << k, -multiple)


def _without_carries(u, v, z):
    """The pair of words of three integers."""
    # Python's bit operators act as if negative integers had endless leading ones.
    majority = (u & v) | (u & z) | (v & z)
    return (u ^ v ^ z, 2 * majority)
