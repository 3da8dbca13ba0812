"""Quotients rounded to integers in four modes."""

from quotientcells.digits import need_scheme
from quotientcells.errors import BadMode, BadNumber
from quotientcells.judge import finished
from quotientcells.kinds import is_fraction
from quotientcells.machines import need_kind, whole
from quotientcells.runs import need_run, need_start

MODES = ("down", "up", "zero", "even")


def need_mode(mode):
    """Raise BadMode if the value is not one of the modes."""
    if mode not in MODES:
        raise BadMode(mode)


def exact(scheme, kind, operands, m, mode):
    """The exact quotient with m steps, rounded, by integers alone."""
    need_scheme(scheme)
    need_kind(kind)
    need_start(scheme, kind, operands, m)
    need_mode(mode)
    dividend, d, _ = operands
    return nearest(whole(kind, dividend) << (scheme[0] * m), d, mode)


def divide(machine, operands, m, mode):
    """The quotient that the machine finds, rounded, None if its run ends early."""
    need_run(machine, operands, m)
    need_mode(mode)
    end = finished(machine, operands, m)
    if end is None:
        return None
    quotient, w = end
    return _chosen(quotient, w, operands[1], mode)


def rounded(fraction, mode):
    """A fraction, rounded."""
    if not is_fraction(fraction):
        raise BadNumber(fraction)
    need_mode(mode)
    top, bottom = fraction
    return nearest(top, bottom, mode)


def nearest(top, bottom, mode):
    """The integer to which a mode rounds the quotient of an integer and one above 0."""
    quotient = top // bottom
    return _chosen(quotient, top - quotient * bottom, bottom, mode)


def _chosen(quotient, w, d, mode):
    """Quotient or the next integer, as the mode chooses by what is left of the divisor."""
    if w == 0 or mode == "down":
        return quotient
    if mode == "up":
        return quotient + 1
    if mode == "zero":
        return quotient + 1 if quotient < 0 else quotient
    if 2 * w > d or (2 * w == d and quotient % 2 == 1):
        return quotient + 1
    return quotient
