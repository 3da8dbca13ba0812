"""How rarely a wrong table errs: bad operands of a width, and the least width with some."""

from quotientcells.cells import reached, suits_operands
from quotientcells.digits import radix
from quotientcells.errors import BadMachine, BadNumber
from quotientcells.judge import is_fault
from quotientcells.kinds import as_fraction, is_count
from quotientcells.machines import cell_of, digit_at, is_machine_of


def least_width(machine):
    """The least width for which there are bad operands, None for a right machine."""
    _need_machine_of_one(machine)
    faults = _faults(machine)
    if not any(faults):
        return None
    n = 1
    while not _bad(machine, faults, n):
        n += 1
    return n


def bad_operands(machine, n):
    """The ascending tuple of the pairs (d, x) of all bad operands of a width."""
    _need_machine_and_width(machine, n)
    return tuple(_bad(machine, _faults(machine), n))


def share(machine, n):
    """The number of the bad operands of a width, divided by that of all its operands."""
    _need_machine_and_width(machine, n)
    every = sum([2 * _most(machine[0], d) + 1 for d in range(1 << n, 2 << n)])
    return as_fraction(len(_bad(machine, _faults(machine), n)), every)


def _need_machine_of_one(machine):
    """Raise BadMachine if the value is not a machine of the kind "one"."""
    if not is_machine_of("one", machine):
        raise BadMachine(machine)


def _need_machine_and_width(machine, n):
    """Raise the error of the first argument that is wrong, if one is."""
    _need_machine_of_one(machine)
    if not is_count(n):
        raise BadNumber(n)


def _faults(machine):
    """For each row the list of the reached y whose digit is missing or does not suit."""
    scheme, look, table = machine
    rows = []
    for i in range(len(table)):
        least, most = reached(scheme, look, i)
        rows.append([y for y in range(least, most + 1) if is_fault(machine, (i, y))])
    return rows


def _bad(machine, faults, n):
    """The list of the pairs (d, x) of all bad operands of a width, ascending."""
    scheme, look, _ = machine
    found = []
    for d in range(1 << n, 2 << n):
        i, _ = cell_of(scheme, look, 0, d, n)
        # A digit that suits its cell suits all operands in it: no others are bad.
        for y in faults[i]:
            digit = digit_at(machine, (i, y))
            for x in _dividends(scheme, look, y, d, n):
                if digit is None or not suits_operands(scheme, "one", (x, d, n), digit):
                    found.append((d, x))
    return found


def _dividends(scheme, look, y, d, n):
    """The list of the dividends in bounds for d whose estimate is y, ascending."""
    bits = scheme[0] + look[0]
    most = _most(scheme, d)
    # Both ends are rounded up: the first one with this estimate, and with the next one.
    first = max(-most, -(-(y << n) >> bits))
    end = min(most + 1, -(-((y + 1) << n) >> bits))
    return list(range(first, end))


def _most(scheme, d):
    """The greatest dividend that is in bounds for d."""
    return scheme[1] * d // (radix(scheme) - 1)
