"""Finished runs, and whether a machine is right for all operands."""

from quotientcells.cells import reached_cells, suits_cell, unsuited
from quotientcells.digits import value
from quotientcells.kinds import is_natural, is_triple
from quotientcells.machines import digit_at, is_operands, need_machine, whole
from quotientcells.runs import run

# The most steps that a certificate may name.
MOST_STEPS = 60


def judge_machine(machine):
    """A certificate that the machine is right, or operands on which it errs."""
    need_machine(machine)
    cell = _first_fault(machine)
    if cell is None:
        return ("right",)
    operands = _operands_to_err(machine, cell)
    return ("errs", operands, _steps_to_err(machine, operands))


def machine_holds(machine, thing):
    """Whether any value is a certificate for the machine."""
    need_machine(machine)
    if thing == ("right",):
        return _first_fault(machine) is None
    if not is_triple(thing) or thing[0] != "errs":
        return False
    _, operands, m = thing
    scheme, look, _ = machine
    if not is_operands(scheme, look[2], operands) or not is_natural(m):
        return False
    return m <= MOST_STEPS and _errs(machine, operands, m)


def is_right(machine):
    """Whether the machine is right."""
    need_machine(machine)
    return _first_fault(machine) is None


def finished(machine, operands, m):
    """The quotient of a run and what is left, None if the run ends early."""
    string, remainder = run(machine, operands, m)
    if len(string) < m:
        return None
    scheme, look, _ = machine
    quotient = value(scheme, string)
    w = whole(look[2], remainder)
    d = operands[1]
    if w < 0:
        return (quotient - 1, w + d)
    if w >= d:
        return (quotient + 1, w - d)
    return (quotient, w)


def is_fault(machine, cell):
    """Whether the machine has no digit for a reached cell, or one that does not suit it."""
    scheme, look, _ = machine
    digit = digit_at(machine, cell)
    return digit is None or not suits_cell(scheme, look, cell, digit)


def _first_fault(machine):
    """The first reached cell whose digit is missing or does not suit it, None if there is none."""
    scheme, look, _ = machine
    for cell in reached_cells(scheme, look):
        if is_fault(machine, cell):
            return cell
    return None


def _operands_to_err(machine, cell):
    """Operands for which the machine is wrong, in a cell that is a fault."""
    scheme, look, _ = machine
    digit = digit_at(machine, cell)
    if digit is None:
        # No reached cell is suited by both outermost digits, so there are
        # operands in it that one of them does not suit.
        a = scheme[1]
        digit = -a if suits_cell(scheme, look, cell, a) else a
    return unsuited(scheme, look, cell, digit)


def _steps_to_err(machine, operands):
    """The least number of steps with which the machine errs on operands that it is wrong for."""
    # The excess of the remainder grows at least as the powers of the radix do,
    # so the search ends a few steps behind the width of the operands: below 60.
    m = 1
    while not _errs(machine, operands, m):
        m += 1
    return m


def _errs(machine, operands, m):
    """Whether the run with m steps ends early or its quotient is not exact."""
    end = finished(machine, operands, m)
    return end is None or not 0 <= end[1] < operands[1]
