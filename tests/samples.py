"""Values that several tests share."""

from fractions import Fraction
from functools import lru_cache
from itertools import product
from math import ceil, floor

# All schemes there are, written out so that no code of the program is trusted.
SCHEMES = ((1, 1), (2, 2), (2, 3), (3, 4), (3, 5), (3, 6), (3, 7))


def deep_tuple():
    deep = ()
    for _ in range(15):
        deep = (deep,)
    return deep


def odd_values():
    """Values of all sorts that are no scheme, no string, no pair of registers and no number."""
    # Fresh objects for each call, since a test looks whether a call changed them.
    return [
        None, True, False, "", "22", "(2, 2)", "a\nb", "~" * 3000,
        [], [2, 2], [[2, 2]], {}, {2: 2}, {"k": [1]}, deep_tuple(), tuple([None] * 1999),
        (None,), ("1",), (True,), (False,), ([1],), ({},), ((1,),), (1, None), (1, "1"),
        (True, True), (2, True), ((2, 2),), ((2, 2), (2, 2), 0), [(), ()],
    ]


def wrong_integers():
    """Values that look like integers, or hold one, but are none."""
    return [None, True, False, "", "3", (), (3,), [3], {3: 3}, (3, 0), "three"]


def all_strings(scheme, m):
    a = scheme[1]
    return product(range(-a, a + 1), repeat=m)


def plain_value(scheme, string):
    """The value, by powers instead of step by step."""
    r = 2 ** scheme[0]
    return sum(digit * r ** place for place, digit in enumerate(reversed(string)))


# The looks within the limits whose t + s is at most 3, of both kinds.
LOOKS = tuple(
    (t, s, kind) for t in range(4) for s in range(4 - t) for kind in ("one", "pair")
)

# The machines of the document's examples; both are right.
ONE_MACHINE = ((1, 1), (0, 0, "one"), ((-4, (-1, -1, -1, 0, 0, 1, 1, 1)),))
PAIR_MACHINE = ((1, 1), (0, 0, "pair"), ((-5, (-1, -1, -1, -1, 0, 1, 1, 1, 1)),))


def words_of(kind, remainder):
    return (remainder,) if kind == "one" else remainder


def plain_cell(scheme, look, remainder, d, n):
    """The cell of [3.4], by fractions."""
    t, s, kind = look
    r = 2 ** scheme[0]
    words = words_of(kind, remainder)
    y = sum(floor(Fraction(r * word * 2 ** t, 2 ** n)) for word in words)
    return (floor(Fraction((d - 2 ** n) * 2 ** s, 2 ** n)), y)


def plain_bounds(scheme, w, d):
    """Whether w is in bounds for d, by fractions."""
    return abs(Fraction(w, d)) <= Fraction(scheme[1], 2 ** scheme[0] - 1)


def plain_suits(scheme, kind, operands, digit):
    """Whether the digit suits the operands [5.2]."""
    dividend, d, _ = operands
    return plain_bounds(scheme, 2 ** scheme[0] * sum(words_of(kind, dividend)) - digit * d, d)


def all_operands(scheme, kind, n):
    """Operands of a width: all of the kind "one"; of the kind "pair" all up to whole units."""
    k, a = scheme
    for d in range(2 ** n, 2 ** (n + 1)):
        most = a * d // (2 ** k - 1)
        for x in range(-most, most + 1):
            if kind == "one":
                yield (x, d, n)
            else:
                # A whole unit more in c and less in p changes no estimate.
                for c in range(2 ** n):
                    yield ((x - c, c), d, n)


def outline(scheme, look, cell):
    """The corners (divisor, shifted remainder) of the closure of a cell, () if it is empty.

    The box of the cell is clipped by the two straight lines that bound the remainders.
    """
    k, a = scheme
    t, s, kind = look
    i, y = cell
    steep = Fraction(2 ** k * a, 2 ** k - 1)
    left, right = 1 + Fraction(i, 2 ** s), 1 + Fraction(i + 1, 2 ** s)
    low, high = Fraction(y, 2 ** t), Fraction(y + (1 if kind == "one" else 2), 2 ** t)
    corners = [(left, low), (right, low), (right, high), (left, high)]
    for sign in (1, -1):
        kept = []
        for (u, v), (x, z) in zip(corners[-1:] + corners[:-1], corners):
            before, after = steep * u - sign * v, steep * x - sign * z
            if (before < 0) != (after < 0):
                part = before / (before - after)
                kept.append((u + part * (x - u), v + part * (z - v)))
            if after >= 0:
                kept.append((x, z))
        corners = kept
    doubled = 0
    for (u, v), (x, z) in zip(corners[-1:] + corners[:-1], corners):
        doubled += u * z - x * v
    # A corner or a line alone belongs to the closure, but never to the cell itself.
    return tuple(corners) if doubled != 0 else ()


def outline_digits(scheme, corners):
    """The digits that suit all points within the corners."""
    k, a = scheme
    slack = Fraction(a, 2 ** k - 1)
    return tuple(
        q for q in range(-a, a + 1)
        if all((q - slack) * x <= z <= (q + slack) * x for x, z in corners)
    )


@lru_cache(maxsize=None)
def outline_machine(scheme, look):
    """A machine with, for each cell, the greatest digit that suits it; 0 where none does."""
    k, a = scheme
    beyond = ceil(Fraction(2 ** k * a * 2 * 2 ** look[0], 2 ** k - 1)) + 2
    table = []
    for i in range(2 ** look[1]):
        rows = {}
        for y in range(-beyond, beyond):
            corners = outline(scheme, look, (i, y))
            if corners:
                rows[y] = (outline_digits(scheme, corners) or (0,))[-1]
        table.append((min(rows), tuple(rows[y] for y in sorted(rows))))
    return (scheme, look, tuple(table))
