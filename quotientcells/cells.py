"""Cells of a look, and the digits that suit all operands that fall into them."""

from quotientcells.digits import is_digit, need_scheme, radix
from quotientcells.errors import BadCell, BadDigits, BadNumber
from quotientcells.kinds import is_integer, is_natural, is_pair
from quotientcells.machines import cell_of, is_operands, is_within, need_look, whole


def is_reached(scheme, look, cell):
    """Whether some operands of some width fall into the cell."""
    _need_cell(scheme, look, cell)
    return _some_fall_into(scheme, look, cell)


def reached(scheme, look, i):
    """The least and the greatest y such that the cell (i, y) is reached."""
    need_scheme(scheme)
    need_look(look)
    if not is_part(look, i):
        raise BadNumber(i)
    return _ends(scheme, look, i)


def judge_digit(scheme, look, cell, digit):
    """A certificate that the digit suits the cell, or operands that it does not suit."""
    _need_cell_and_digit(scheme, look, cell, digit)
    if suits_cell(scheme, look, cell, digit):
        return ("suits",)
    return ("operands", unsuited(scheme, look, cell, digit))


def digit_holds(scheme, look, cell, digit, thing):
    """Whether any value is a certificate for the cell and the digit."""
    _need_cell_and_digit(scheme, look, cell, digit)
    if thing == ("suits",):
        return suits_cell(scheme, look, cell, digit)
    if not is_pair(thing) or thing[0] != "operands":
        return False
    return is_against(scheme, look, cell, digit, thing[1])


def suitable(scheme, look, cell):
    """The ascending tuple of the digits that suit the cell."""
    _need_cell(scheme, look, cell)
    a = scheme[1]
    return tuple([digit for digit in range(-a, a + 1) if suits_cell(scheme, look, cell, digit)])


def suits_cell(scheme, look, cell, digit):
    """Whether the digit suits all operands that fall into the cell."""
    if not _some_fall_into(scheme, look, cell):
        return True
    return not any(_is_left_behind(scheme, look, cell, digit, side) for side in (1, -1))


def is_cell(look, thing):
    """Whether any value is a cell of the look, reached or not."""
    return is_pair(thing) and is_part(look, thing[0]) and is_integer(thing[1])


def is_part(look, thing):
    """Whether any value is an integer from 0 to 2 ** s - 1."""
    # Bits are counted since 2 ** s is out of reach for a great s.
    return is_natural(thing) and thing.bit_length() <= look[1]


def reached_cells(scheme, look):
    """The list of all reached cells of the look, ascending."""
    cells = []
    for i in range(1 << look[1]):
        least, most = _ends(scheme, look, i)
        cells.extend([(i, y) for y in range(least, most + 1)])
    return cells


def is_against(scheme, look, cell, digit, thing):
    """Whether any value is operands that fall into the cell and that the digit does not suit."""
    if not is_operands(scheme, look[2], thing):
        return False
    dividend, d, n = thing
    if cell_of(scheme, look, dividend, d, n) != cell:
        return False
    return not suits_operands(scheme, look[2], thing, digit)


def suits_operands(scheme, kind, operands, digit):
    """Whether the digit suits the operands."""
    dividend, d, _ = operands
    return is_within(scheme, (whole(kind, dividend) << scheme[0]) - digit * d, d)


def unsuited(scheme, look, cell, digit):
    """Operands that fall into the cell and that the digit does not suit; there are some."""
    # With the width the outermost operands come as near to the corner as one
    # likes, so the search ends; within the limits it does so far below width 40.
    n = max(scheme[0] + look[0], look[1])
    while True:
        for side in (1, -1):
            operands = _outermost(scheme, look, cell, n, side)
            if is_against(scheme, look, cell, digit, operands):
                return operands
        n += 1


def _need_cell(scheme, look, cell):
    """Raise the error of the first argument that is wrong, if one is."""
    need_scheme(scheme)
    need_look(look)
    if not is_cell(look, cell):
        raise BadCell(cell)


def _need_cell_and_digit(scheme, look, cell, digit):
    """Raise the error of the first argument that is wrong, if one is."""
    _need_cell(scheme, look, cell)
    if not is_digit(scheme, digit):
        raise BadDigits(digit)


def _spread(look):
    """How many units of the estimate the shifted remainders of a cell fill."""
    return 1 if look[2] == "one" else 2


def _ends(scheme, look, i):
    """The least and the greatest y of the reached cells (i, y)."""
    t, s, _ = look
    r = radix(scheme)
    top = (r * scheme[1] * ((1 << s) + i + 1)) << t
    # The least integer that is at least the bound of the shifted remainders.
    # No divisor of the cell attains its upper end, so no estimate attains
    # the bound: y is below it, and what the cell fills ends above minus it.
    beyond = -(-top // ((r - 1) << s))
    return (1 - beyond - _spread(look), beyond - 1)


def _some_fall_into(scheme, look, cell):
    """Whether some operands fall into the cell."""
    i, y = cell
    least, most = _ends(scheme, look, i)
    return least <= y <= most


def _is_left_behind(scheme, look, cell, digit, side):
    """Whether operands of a reached cell lie too far on a side for the digit.

    The side is 1 for shifted remainders that are too great and -1 for those that
    are too little; the second case is the first one with all signs turned.
    """
    t, s, _ = look
    i, y = cell
    a = scheme[1]
    turned = side * digit
    # In bounds no shifted remainder lies beyond what the outermost digit suits.
    if turned == a:
        return False
    edge = side * _edge(look, y, side)
    # The cell's corner with the greatest quotient: the quotient of its shifted
    # remainder by its divisor has points of the cell as near as one likes.
    divisor = (1 << s) + i if edge > 0 else (1 << s) + i + 1
    less = radix(scheme) - 1
    return (edge * less) << s > ((turned * less + a) * divisor) << t


def _edge(look, y, side):
    """The end of what the shifted remainders of a cell fill, on a side."""
    return y + _spread(look) if side == 1 else y


def _outermost(scheme, look, cell, n, side):
    """What should be operands of the width n in the cell, near its corner on a side."""
    t, s, _ = look
    i, y = cell
    a = scheme[1]
    less = radix(scheme) - 1
    unit = 1 << (n - scheme[0] - t)
    first = ((1 << s) + i) << (n - s)
    last = first + (1 << (n - s)) - 1
    # Each word of a dividend ends one below a whole unit.
    x = (y + _spread(look)) * unit - _spread(look) if side == 1 else y * unit
    size = side * x
    # The quotient is outermost at the least divisor for which x is in bounds,
    # or at the greatest one if x lies on the other side of 0.
    d = max(first, -(-size * less // a)) if size > 0 else last
    if d > last:
        d = last
        x = side * (a * last // less)
    return (_divided(look, y * unit, unit, x), d, n)


def _divided(look, least, unit, x):
    """The integer x as a dividend whose estimate begins at least."""
    if look[2] == "one":
        return x
    # What is beyond one unit goes to the second word, whose estimate stays 0.
    c = max(0, x - least - unit + 1)
    return (x - c, c)
