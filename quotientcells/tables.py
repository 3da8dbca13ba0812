"""Tables: what may stand in their cells, machines made of it, and the least looks for them."""

from quotientcells.cells import is_against, is_cell, reached, reached_cells, suitable, unsuited
from quotientcells.digits import need_scheme
from quotientcells.errors import BadNumber
from quotientcells.judge import is_right
from quotientcells.kinds import is_natural, is_pair, is_triple
from quotientcells.machines import is_machine, need_kind, need_look

# The greatest sum of t and s that least_looks looks at.
MOST_BITS = 6


def choices(scheme, look):
    """For each row the least reached y, and the digits that suit its reached cells."""
    _need_scheme_and_look(scheme, look)
    rows = []
    for i in range(1 << look[1]):
        least, most = reached(scheme, look, i)
        lots = tuple([suitable(scheme, look, (i, y)) for y in range(least, most + 1)])
        rows.append((least, lots))
    return tuple(rows)


def make_machine(scheme, look):
    """A tight right machine, None if there is none."""
    rows = choices(scheme, look)
    if any(() in lots for _, lots in rows):
        return None
    return (scheme, look, tuple([(lowest, tuple([lot[0] for lot in lots])) for lowest, lots in rows]))


def many_machines(scheme, look):
    """The number of tight right machines."""
    many = 1
    for _, lots in choices(scheme, look):
        for lot in lots:
            many *= len(lot)
    return many


def judge_look(scheme, look):
    """A certificate: a right machine, or a cell with operands against each digit."""
    machine = make_machine(scheme, look)
    if machine is not None:
        return ("machine", machine)
    cell = _hopeless(scheme, look)
    lot = tuple([unsuited(scheme, look, cell, digit) for digit in _all_digits(scheme)])
    return ("cell", cell, lot)


def look_holds(scheme, look, thing):
    """Whether any value is a certificate for the scheme and look."""
    _need_scheme_and_look(scheme, look)
    if is_pair(thing) and thing[0] == "machine":
        machine = thing[1]
        return is_machine(machine) and machine[:2] == (scheme, look) and is_right(machine)
    if is_triple(thing) and thing[0] == "cell":
        return _is_hopeless(scheme, look, thing[1], thing[2])
    return False


def least_looks(scheme, kind, most):
    """The ascending tuple of the pairs (t, s) within the bound that make least looks."""
    need_scheme(scheme)
    need_kind(kind)
    if not is_natural(most):
        raise BadNumber(most)
    greatest = min(most, MOST_BITS)
    found = []
    # With more bits of the divisor at most as many bits of the remainder are
    # needed, and the look is least only if they are fewer.
    fewer = greatest + 1
    for s in range(greatest + 1):
        t = _least_t(scheme, s, kind, min(fewer, MOST_BITS + 1 - s))
        if t is not None:
            found.append((t, s))
            fewer = t
    return tuple(sorted(found))


def _need_scheme_and_look(scheme, look):
    """Raise the error of the first argument that is wrong, if one is."""
    need_scheme(scheme)
    need_look(look)


def _all_digits(scheme):
    """The list of the digits of the scheme, ascending."""
    return list(range(-scheme[1], scheme[1] + 1))


def _hopeless(scheme, look):
    """The first reached cell that no digit suits, None if there is none."""
    for cell in reached_cells(scheme, look):
        if not suitable(scheme, look, cell):
            return cell
    return None


def _is_hopeless(scheme, look, cell, lot):
    """Whether any two values are a cell and a tuple of operands in it against each digit."""
    if not is_cell(look, cell) or not isinstance(lot, tuple):
        return False
    digits = _all_digits(scheme)
    if len(lot) != len(digits):
        return False
    return all([is_against(scheme, look, cell, digit, operands) for digit, operands in zip(digits, lot)])


def _least_t(scheme, s, kind, below):
    """The least t below a bound with which there is a right machine, None if there is none."""
    for t in range(below):
        if _hopeless(scheme, (t, s, kind)) is None:
            return t
    return None
