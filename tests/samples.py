"""Values that several tests share."""

from fractions import Fraction
from functools import lru_cache
from itertools import product
from math import ceil, floor, trunc

# All schemes there are, written out so that no code of the program is trusted.
SCHEMES = ((1, 1), (2, 2), (2, 3), (3, 4), (3, 5), (3, 6), (3, 7))


def deep_tuple():
    deep = ()
    for _ in range(15):
        deep = (deep,)
    return deep


def odd_values():
    """Values of all sorts that are no scheme, no string, no pair of registers and no number."""
    # Fresh objects for each call, since a test looks whether a call changed them.
    return [
        None, True, False, "", "22", "(2, 2)", "a\nb", "~" * 3000,
        [], [2, 2], [[2, 2]], {}, {2: 2}, {"k": [1]}, deep_tuple(), tuple([None] * 1999),
        (None,), ("1",), (True,), (False,), ([1],), ({},), ((1,),), (1, None), (1, "1"),
        (True, True), (2, True), ((2, 2),), ((2, 2), (2, 2), 0), [(), ()],
    ]


def wrong_integers():
    """Values that look like integers, or hold one, but are none."""
    return [None, True, False, "", "3", (), (3,), [3], {3: 3}, (3, 0), "three"]


MODES = ("down", "up", "zero", "even")


def wrong_modes():
    """Values that are no modes."""
    return odd_values() + wrong_integers() + [
        "Down", "DOWN", "down ", " up", "evens", "odd", "half", "nearest", "z", ("down",), ["up"],
    ]


def all_strings(scheme, m):
    a = scheme[1]
    return product(range(-a, a + 1), repeat=m)


def plain_value(scheme, string):
    """The value, by powers instead of step by step."""
    r = 2 ** scheme[0]
    return sum(digit * r ** place for place, digit in enumerate(reversed(string)))


# The looks within the limits whose t + s is at most 3, of both kinds.
LOOKS = tuple(
    (t, s, kind) for t in range(4) for s in range(4 - t) for kind in ("one", "pair")
)

# Schemes and looks with a right machine.
RIGHT = (
    ((1, 1), (0, 0, "one")), ((1, 1), (0, 0, "pair")), ((1, 1), (2, 1, "pair")),
    ((2, 2), (2, 3, "one")), ((2, 2), (3, 3, "pair")), ((2, 3), (0, 1, "one")),
    ((2, 3), (1, 2, "pair")), ((3, 6), (1, 4, "one")), ((3, 7), (1, 3, "one")),
    ((3, 7), (2, 3, "pair")),
)

# The machines of the document's examples; both are right.
ONE_MACHINE = ((1, 1), (0, 0, "one"), ((-4, (-1, -1, -1, 0, 0, 1, 1, 1)),))
PAIR_MACHINE = ((1, 1), (0, 0, "pair"), ((-5, (-1, -1, -1, -1, 0, 1, 1, 1, 1)),))

# The first one with a digit changed, so that one cell is wrong.
WRONG_MACHINE = ((1, 1), (0, 0, "one"), ((-4, (-1, -1, -1, 0, 0, 0, 1, 1)),))

# Values that are no operands of the scheme (1, 1) and the kind "one".
WRONG_OPERANDS = [
    (3, 5), (3, 5, 2, 2), [3, 5, 2], (6, 5, 2), (-6, 5, 2), (3, 3, 2), (3, 8, 2), (0, 1, 0),
    (True, 5, 2), (3, 5, True), (3, True, 2), (None, 5, 2), (3, "5", 2), ((3, 5, 2),),
]


# The same for pairs of words.
WRONG_PAIRS = WRONG_OPERANDS + [
    (3, 5, 2), ((3,), 5, 2), ([3, 0], 5, 2), ((True, 0), 5, 2), ((6, 0), 5, 2), ((3, 3), 5, 2),
    ((0, 0, 0), 5, 2),
]


def words_of(kind, remainder):
    return (remainder,) if kind == "one" else remainder


def plain_cell(scheme, look, remainder, d, n):
    """The cell of [3.4], by fractions."""
    t, s, kind = look
    r = 2 ** scheme[0]
    words = words_of(kind, remainder)
    y = sum(floor(Fraction(r * word * 2 ** t, 2 ** n)) for word in words)
    return (floor(Fraction((d - 2 ** n) * 2 ** s, 2 ** n)), y)


def plain_bounds(scheme, w, d):
    """Whether w is in bounds for d, by fractions."""
    return abs(Fraction(w, d)) <= Fraction(scheme[1], 2 ** scheme[0] - 1)


def plain_suits(scheme, kind, operands, digit):
    """Whether the digit suits the operands [5.2]."""
    dividend, d, _ = operands
    return plain_bounds(scheme, 2 ** scheme[0] * sum(words_of(kind, dividend)) - digit * d, d)


def all_operands(scheme, kind, n):
    """Operands of a width: all of the kind "one"; of the kind "pair" all up to whole units."""
    k, a = scheme
    for d in range(2 ** n, 2 ** (n + 1)):
        most = a * d // (2 ** k - 1)
        for x in range(-most, most + 1):
            if kind == "one":
                yield (x, d, n)
            else:
                # A whole unit more in c and less in p changes no estimate.
                for c in range(2 ** n):
                    yield ((x - c, c), d, n)


def outline(scheme, look, cell):
    """The corners (divisor, shifted remainder) of the closure of a cell, () if it is empty.

    The box of the cell is clipped by the two straight lines that bound the remainders.
    """
    k, a = scheme
    t, s, kind = look
    i, y = cell
    steep = Fraction(2 ** k * a, 2 ** k - 1)
    left, right = 1 + Fraction(i, 2 ** s), 1 + Fraction(i + 1, 2 ** s)
    low, high = Fraction(y, 2 ** t), Fraction(y + (1 if kind == "one" else 2), 2 ** t)
    corners = [(left, low), (right, low), (right, high), (left, high)]
    for sign in (1, -1):
        kept = []
        for (u, v), (x, z) in zip(corners[-1:] + corners[:-1], corners):
            before, after = steep * u - sign * v, steep * x - sign * z
            if (before < 0) != (after < 0):
                part = before / (before - after)
                kept.append((u + part * (x - u), v + part * (z - v)))
            if after >= 0:
                kept.append((x, z))
        corners = kept
    doubled = 0
    for (u, v), (x, z) in zip(corners[-1:] + corners[:-1], corners):
        doubled += u * z - x * v
    # A corner or a line alone belongs to the closure, but never to the cell itself.
    return tuple(corners) if doubled != 0 else ()


def outline_digits(scheme, corners):
    """The digits that suit all points within the corners."""
    k, a = scheme
    slack = Fraction(a, 2 ** k - 1)
    return tuple(
        q for q in range(-a, a + 1)
        if all((q - slack) * x <= z <= (q + slack) * x for x, z in corners)
    )


@lru_cache(maxsize=None)
def outline_lots(scheme, look):
    """For each row a dict of the digits that suit each reached y, ascending."""
    k, a = scheme
    beyond = ceil(Fraction(2 ** k * a * 2 * 2 ** look[0], 2 ** k - 1)) + 2
    rows = []
    for i in range(2 ** look[1]):
        outlines = {y: outline(scheme, look, (i, y)) for y in range(-beyond, beyond)}
        rows.append({y: outline_digits(scheme, found) for y, found in outlines.items() if found})
    return tuple(rows)


def outline_machine(scheme, look):
    """A machine with, for each cell, the greatest digit that suits it; 0 where none does."""
    rows = outline_lots(scheme, look)
    table = tuple((min(row), tuple((lot or (0,))[-1] for lot in row.values())) for row in rows)
    return (scheme, look, table)


def plain_right(machine):
    """Whether each reached cell has a digit that suits it."""
    scheme, look, table = machine
    for (lowest, string), row in zip(table, outline_lots(scheme, look)):
        known = dict(enumerate(string, lowest))
        if not all(known.get(y) in lot for y, lot in row.items()):
            return False
    return True


def with_digit(machine, i, y, digit):
    """The machine with another digit in a cell of its table."""
    scheme, look, table = machine
    lowest, string = table[i]
    at = y - lowest
    row = (lowest, string[:at] + (digit,) + string[at + 1:])
    return (scheme, look, table[:i] + (row,) + table[i + 1:])


def bit(word, place):
    return word >> place & 1


def plain_reduced(u, v, z):
    """The words of [4.1], bit by bit; the last place stands for all further ones."""
    places = max(word.bit_length() for word in (u, v, z)) + 1
    p = c = 0
    for place in range(places + 1):
        bits = bit(u, place) + bit(v, place) + bit(z, place)
        weight = -2 ** places if place == places else 2 ** place
        p += weight * (bits % 2)
        c += weight * (bits >= 2)
    return (p, 2 * c)


def plain_run(machine, operands, m):
    """The digits and the remainders of a run, by fractions and sums of words bit by bit."""
    scheme, look, table = machine
    remainder, d, n = operands
    r = 2 ** scheme[0]
    string, passed = (), (remainder,)
    for _ in range(m):
        i, y = plain_cell(scheme, look, remainder, d, n)
        lowest, digits = table[i]
        known = dict(enumerate(digits, lowest))
        if y not in known:
            break
        q = known[y]
        if look[2] == "one":
            remainder = r * remainder - q * d
        else:
            p, c = remainder
            remainder = plain_reduced(r * p, r * c, -q * d)
        string += (q,)
        passed += (remainder,)
    return string, passed


def plain_finished(machine, operands, m):
    """The pair of [6.1], None if the run ends early."""
    string, passed = plain_run(machine, operands, m)
    if len(string) < m:
        return None
    quotient, w = plain_value(machine[0], string), sum(words_of(machine[1][2], passed[-1]))
    step = -1 if w < 0 else 1 if w >= operands[1] else 0
    return (quotient + step, w - step * operands[1])


def plain_quotient(scheme, kind, operands, m):
    """The exact quotient of operands, with m steps."""
    dividend, d, _ = operands
    return Fraction(sum(words_of(kind, dividend)) * 2 ** (scheme[0] * m), d)


def plain_errs(machine, operands, m):
    """Whether the run ends early or its quotient is not the exact one, rounded down."""
    scheme, look, _ = machine
    end = plain_finished(machine, operands, m)
    return end is None or end[0] != floor(plain_quotient(scheme, look[2], operands, m))


def plain_rounded(fraction, mode):
    """A fraction rounded by the functions of Python; its round is the mode "even"."""
    return {"down": floor, "up": ceil, "zero": trunc, "even": round}[mode](fraction)


def plain_to_bits(fraction, p, mode):
    """A fraction rounded to p bits as [9.2] says, as a binary number."""
    if fraction == 0:
        return (0, 0)
    e = 0
    while abs(fraction) >= 2 ** p * Fraction(2) ** e:
        e += 1
    while abs(fraction) < 2 ** (p - 1) * Fraction(2) ** e:
        e -= 1
    m = plain_rounded(fraction / Fraction(2) ** e, mode)
    while m % 2 == 0:
        m, e = m // 2, e + 1
    return (m, e)


def number_of(binary):
    """The fraction that a binary number stands for."""
    return binary[0] * Fraction(2) ** binary[1]


def plain_output(machine, logic, cell):
    """The output of a logic for a cell, by words written in binary."""
    b, terms = logic
    i, y = cell
    s = machine[1][1]
    word = format(y % 2 ** b, f"0{b}b") + (format(i, f"0{s}b") if s else "")
    digits = {
        digit for pattern, digit in terms
        if all(sign == "-" or sign == bit for sign, bit in zip(pattern, word, strict=True))
    }
    return digits.pop() if len(digits) == 1 else None


def plain_fits(machine, logic, i, y):
    """Whether a cell has a digit and the logic gives it: None if the cell has no digit."""
    lowest, string = machine[2][i]
    known = dict(enumerate(string, lowest))
    if y not in known:
        return None
    half = 2 ** (logic[0] - 1)
    return -half <= y < half and plain_output(machine, logic, (i, y)) == known[y]


def plain_bad(machine, n):
    """The pairs (d, x) of the bad operands of a width, ascending."""
    scheme, look, table = machine
    found = []
    for x, d, _ in all_operands(scheme, "one", n):
        i, y = plain_cell(scheme, look, x, d, n)
        lowest, string = table[i]
        known = dict(enumerate(string, lowest))
        if y not in known or not plain_suits(scheme, "one", (x, d, n), known[y]):
            found.append((d, x))
    return tuple(sorted(found))


def shorter(machine, i, left, right):
    """The machine without some digits at the two ends of a row."""
    scheme, look, table = machine
    lowest, string = table[i]
    row = (lowest + left, string[left:len(string) - right])
    return (scheme, look, table[:i] + (row,) + table[i + 1:])


def longer(machine, digit):
    """The machine with a digit more at both ends of each row."""
    scheme, look, table = machine
    rows = tuple((lowest - 1, (digit,) + string + (digit,)) for lowest, string in table)
    return (scheme, look, rows)
