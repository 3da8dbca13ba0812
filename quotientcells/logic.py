"""Selection logic: terms that match the bits of a cell and give its digit."""

from quotientcells.cells import is_cell
from quotientcells.digits import is_digit
from quotientcells.errors import BadCell, BadLogic
from quotientcells.kinds import is_count, is_pair, is_triple
from quotientcells.machines import digit_at, need_machine


def make_logic(machine):
    """A logic that fits the machine, with a term for each digit of its table."""
    need_machine(machine)
    _, look, table = machine
    b = max([_bits_for(y) for lowest, string in table for y in (lowest, lowest + len(string) - 1)])
    return (b, tuple([(_word(look, b, cell), digit) for cell, digit in _filled(machine)]))


def is_logic(machine, thing):
    """Whether any value is a logic of the machine."""
    need_machine(machine)
    if not is_pair(thing):
        return False
    b, terms = thing
    if not is_count(b) or not isinstance(terms, tuple):
        return False
    return all([_is_term(machine, b, term) for term in terms])


def output(machine, logic, cell):
    """The digit that all matching terms have, None if there is no such digit."""
    _need_logic(machine, logic)
    if not is_cell(machine[1], cell):
        raise BadCell(cell)
    return _given(machine, logic, cell)


def judge_logic(machine, logic):
    """A certificate that the logic fits, or a cell with a digit that it does not give."""
    _need_logic(machine, logic)
    for cell, digit in _filled(machine):
        if not _fits_at(machine, logic, cell, digit):
            return ("cell", *cell)
    return ("fits",)


def logic_holds(machine, logic, thing):
    """Whether any value is a certificate for the machine and the logic."""
    _need_logic(machine, logic)
    if thing == ("fits",):
        return judge_logic(machine, logic) == ("fits",)
    if not is_triple(thing) or thing[0] != "cell" or not is_cell(machine[1], thing[1:]):
        return False
    cell = thing[1:]
    digit = digit_at(machine, cell)
    return digit is not None and not _fits_at(machine, logic, cell, digit)


def _need_logic(machine, logic):
    """Raise the error of the first argument that is wrong, if one is."""
    if not is_logic(machine, logic):
        raise BadLogic(logic)


def _is_term(machine, b, thing):
    """Whether any value is a term of the width b for the machine."""
    if not is_pair(thing):
        return False
    pattern, digit = thing
    if not isinstance(pattern, str) or len(pattern) != b + machine[1][1]:
        return False
    return all([sign in "01-" for sign in pattern]) and is_digit(machine[0], digit)


def _filled(machine):
    """The list of the cells for which the table has a digit, each with this digit."""
    return [
        ((i, lowest + at), digit)
        for i, (lowest, string) in enumerate(machine[2])
        for at, digit in enumerate(string)
    ]


def _bits_for(y):
    """The least width in which y can be written in two's complement."""
    return (y if y >= 0 else -y - 1).bit_length() + 1


def _fits_at(machine, logic, cell, digit):
    """Whether the logic gives the digit for the cell, whose y must lie within its width."""
    return _bits_for(cell[1]) <= logic[0] and _given(machine, logic, cell) == digit


def _given(machine, logic, cell):
    """The output of the logic for the cell."""
    b, terms = logic
    # Without terms nothing bounds the width, and the word may be too long to be made.
    if not terms:
        return None
    word = _word(machine[1], b, cell)
    digits = [digit for pattern, digit in terms if _matches(pattern, word)]
    if not digits or min(digits) != max(digits):
        return None
    return digits[0]


def _matches(pattern, word):
    """Whether each sign of the pattern is - or the bit at the same position."""
    return all([sign in ("-", bit) for sign, bit in zip(pattern, word)])


def _word(look, b, cell):
    """The word of a cell: b bits for y, then s bits for i."""
    i, y = cell
    return _last_bits(y, b) + _last_bits(i, look[1])


def _last_bits(number, many):
    """The last bits of an integer, the most significant one first."""
    # A shift acts as if a negative integer had endless leading ones, as in two's complement.
    return "".join([str(number >> place & 1) for place in reversed(range(many))])
