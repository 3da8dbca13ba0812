import unittest
from fractions import Fraction
from random import Random

from quotientcells.errors import BadMachine, BadMode, BadNumber
from quotientcells.numbers import is_binary, quotient, to_bits
from samples import (
    MODES, ONE_MACHINE, PAIR_MACHINE, RIGHT, WRONG_MACHINE, number_of, odd_values, outline_machine,
    plain_rounded, plain_to_bits, shorter, with_digit, wrong_integers, wrong_modes,
)

# Right machines of the kind "one" with t + s at most 5.
MACHINES = tuple(
    outline_machine(scheme, look) for scheme, look in RIGHT if look[2] == "one" and sum(look[:2]) <= 5
)

WRONG_BINARIES = [
    (2, 0), (-2, 0), (0, 1), (0, -1), (4, 5), (1,), (1, 0, 0), [1, 0], (True, 0), (1, True), (1, False),
    (False, False), (0, False), (False, 0), (1, None), (None, 0), ("1", 0), (1, "0"), ((1, 0),), "1", 1,
    {1: 0}, ((1,), 0), (1, (0,)), (10 ** 39, 0),
]


def no_binaries():
    """Values that are no binary numbers."""
    # One of the values that hold an integer is a binary number.
    return [thing for thing in odd_values() + wrong_integers() if thing != (3, 0)] + WRONG_BINARIES


class IsBinaryTest(unittest.TestCase):
    def test_examples(self):
        self.assertIs(is_binary((2, 0)), False)

    def test_tops_and_exponents(self):
        for m in range(-20, 21):
            for e in (0, 1, -1, 60, -60, 10 ** 39):
                self.assertIs(is_binary((m, e)), m % 2 == 1 or (m, e) == (0, 0))

    def test_great_tops(self):
        for m in (2 ** 24 - 1, 1 - 2 ** 24, 10 ** 39 + 1, -10 ** 39 - 1):
            self.assertIs(is_binary((m, 0)), True)
            self.assertIs(is_binary((m + 1, 0)), False)

    def test_other_values(self):
        for thing in no_binaries():
            self.assertIs(is_binary(thing), False, thing)


class ToBitsTest(unittest.TestCase):
    def check(self, fraction, p, mode):
        """Compare a rounded fraction with a plain one; give it."""
        found = to_bits((fraction.numerator, fraction.denominator), p, mode)
        self.assertEqual(found, plain_to_bits(fraction, p, mode), (fraction, p, mode))
        self.assertIs(is_binary(found), True)
        return found

    def test_examples(self):
        self.assertEqual([to_bits((3, 5), 4, mode) for mode in ("even", "down")], [(5, -3), (9, -4)])
        self.assertEqual(to_bits((-3, 5), 4, "down"), (-5, -3))
        self.assertEqual(to_bits((31, 1), 3, "up"), (1, 5))

    def test_small_fractions(self):
        for bottom in range(1, 14):
            for top in range(-30, 31):
                for p in (1, 2, 3, 5):
                    for mode in MODES:
                        self.check(Fraction(top, bottom), p, mode)

    def test_great_fractions(self):
        chosen = Random(9)
        for _ in range(60):
            top, bottom = chosen.randint(-10 ** 9, 10 ** 9), chosen.randint(1, 10 ** 9)
            for p in (1, 11, 23, 24):
                for mode in MODES:
                    self.check(Fraction(top, bottom), p, mode)
        for top, bottom in ((10 ** 9, 1), (1, 10 ** 9), (10 ** 9, 10 ** 9 - 1), (10 ** 9 - 1, 10 ** 9)):
            for sign in (1, -1):
                for p in (1, 2, 24):
                    for mode in MODES:
                        self.check(sign * Fraction(top, bottom), p, mode)

    def test_zero(self):
        for p in (1, 2, 24):
            for mode in MODES:
                self.assertEqual(to_bits((0, 1), p, mode), (0, 0))

    def test_numbers_of_p_bits_stay(self):
        for p in (1, 2, 5, 24):
            for v in (1, 2 ** p - 1, 2 ** (p - 1)):
                for e in (-20, 0, 20):
                    for sign in (1, -1):
                        fraction = sign * v * Fraction(2) ** e
                        for mode in MODES:
                            self.assertEqual(number_of(self.check(fraction, p, mode)), fraction)

    def test_up_to_the_next_power(self):
        # Between the greatest number of p bits and the next power of 2, above and below the half.
        for p in (1, 2, 3, 24):
            for quarters, found in (
                (1, {"up"}), (2, {"up", "even"}), (3, {"up", "even"}),
            ):
                fraction = 2 ** p - 1 + Fraction(quarters, 4)
                for mode in MODES:
                    expected = 2 ** p if mode in found else 2 ** p - 1
                    self.assertEqual(number_of(self.check(fraction, p, mode)), expected)
                    low = {"up": "down", "down": "up"}.get(mode, mode)
                    self.assertEqual(number_of(self.check(-fraction, p, low)), -expected)

    def test_halves_between_two_numbers(self):
        for p in (1, 2, 3, 6):
            for v in range(2 ** (p - 1), 2 ** p):
                for scale in (Fraction(1, 64), Fraction(1), Fraction(8)):
                    half = (v + Fraction(1, 2)) * scale
                    for sign in (1, -1):
                        for mode in MODES:
                            found = number_of(self.check(sign * half, p, mode))
                            expected = plain_rounded(sign * (v + Fraction(1, 2)), mode) * scale
                            self.assertEqual(found, expected)

    def test_wrong_arguments_in_order(self):
        fractions = odd_values() + [
            None, True, "1/2", 3, (1, 0), (0, 0), (0, 2), (2, 4), (1, -2), (3, 3), (1,), (1, 2, 3), [1, 2],
            (True, 2), (1, True), ("1", 2), (1, "2"), ((1, 2),),
        ]
        for fraction in fractions:
            for p, mode in ((4, "even"), (0, "even"), (4, None), (None, None)):
                with self.assertRaises(BadNumber) as caught:
                    to_bits(fraction, p, mode)
                self.assertIs(caught.exception.thing, fraction)
        for p in odd_values() + wrong_integers() + [0, -1, -10 ** 39]:
            for mode in ("even", None, "half"):
                with self.assertRaises(BadNumber) as caught:
                    to_bits((3, 5), p, mode)
                self.assertIs(caught.exception.thing, p)
        for mode in wrong_modes():
            for fraction in ((3, 5), (0, 1)):
                with self.assertRaises(BadMode) as caught:
                    to_bits(fraction, 4, mode)
                self.assertIs(caught.exception.thing, mode)


class QuotientTest(unittest.TestCase):
    def check(self, machine, one, other, p, mode):
        """Compare a quotient with the exact one, rounded."""
        found = quotient(machine, one, other, p, mode)
        exact = number_of(one) / number_of(other)
        self.assertEqual(found, plain_to_bits(exact, p, mode), (machine[:2], one, other, p, mode))
        self.assertIs(is_binary(found), True)
        if abs(exact.numerator) <= 10 ** 9 and exact.denominator <= 10 ** 9:
            self.assertEqual(found, to_bits((exact.numerator, exact.denominator), p, mode))

    def test_examples(self):
        self.assertEqual(quotient(ONE_MACHINE, (3, 0), (5, 0), 4, "even"), (5, -3))
        self.assertEqual(quotient(ONE_MACHINE, (-3, 2), (5, -1), 4, "zero"), (-9, -1))
        self.assertEqual(quotient(ONE_MACHINE, (0, 0), (5, 0), 4, "up"), (0, 0))
        self.assertEqual(quotient(ONE_MACHINE, (7, 0), (7, 3), 4, "even"), (1, -3))

    def test_small_numbers(self):
        tops = (1, 3, 5, 7, 9, 15, 17, 31)
        for machine in MACHINES:
            for m in tops:
                for other in tops:
                    for p in (1, 2, 4):
                        for mode in MODES:
                            self.check(machine, (m, 0), (-other, 3), p, mode)
        for m in tops:
            for other in tops:
                for signs in ((1, 1), (-1, 1), (1, -1), (-1, -1)):
                    for p in (1, 3):
                        for mode in MODES:
                            self.check(ONE_MACHINE, (signs[0] * m, -1), (signs[1] * other, 0), p, mode)

    def test_great_numbers(self):
        chosen = Random(12)
        for machine in MACHINES:
            for p in (1, 8, 23, 24):
                for _ in range(8):
                    one = (2 * chosen.randrange(-2 ** 23, 2 ** 23) + 1, chosen.randint(-60, 60))
                    other = (2 * chosen.randrange(-2 ** 23, 2 ** 23) + 1, chosen.randint(-60, 60))
                    for mode in MODES:
                        self.check(machine, one, other, p, mode)

    def test_ends_of_the_limits(self):
        tops = (1, -1, 3, 2 ** 24 - 1, 1 - 2 ** 24, 2 ** 23 + 1, 2 ** 23 - 1)
        for m in tops:
            for other in tops:
                for exponents in ((60, -60), (-60, 60), (60, 60)):
                    for mode in MODES:
                        one, divisor = (m, exponents[0]), (other, exponents[1])
                        self.check(ONE_MACHINE, one, divisor, 24, mode)
                        self.check(MACHINES[-1], one, divisor, 1, mode)

    def test_halves_between_two_numbers(self):
        for p in (1, 2, 5):
            for v in range(2 ** (p - 1), 2 ** p):
                # Twice the half is odd, so it is a binary number itself.
                for sign in (1, -1):
                    for mode in MODES:
                        found = quotient(ONE_MACHINE, (sign * (2 * v + 1), 0), (1, 1), p, mode)
                        expected = plain_rounded(sign * Fraction(2 * v + 1, 2), mode)
                        self.assertEqual(number_of(found), expected)
                        self.check(ONE_MACHINE, (sign * 3 * (2 * v + 1), 0), (3, 0), p, mode)

    def test_just_beside_a_number_of_p_bits(self):
        # The quotients 1 + 2 ** -23 and near it lie just above 1, however few bits are wanted.
        for p in (1, 2, 8, 22):
            for other in (2 ** 23 - 1, 2 ** 23 + 1):
                for sign in (1, -1):
                    for mode in MODES:
                        self.check(ONE_MACHINE, (sign, 23), (other, 0), p, mode)
                        self.check(MACHINES[2], (sign * other, 0), (1, 5), p, mode)

    def test_zero(self):
        for machine in MACHINES:
            for other in ((1, 0), (-1, 60), (2 ** 24 - 1, -60), (-3, 2)):
                for mode in MODES:
                    self.assertEqual(quotient(machine, (0, 0), other, 7, mode), (0, 0))

    def test_wrong_machines(self):
        wrong = odd_values() + wrong_integers() + [
            PAIR_MACHINE, WRONG_MACHINE, ONE_MACHINE[:2], list(ONE_MACHINE),
            shorter(ONE_MACHINE, 0, 1, 0), shorter(ONE_MACHINE, 0, 0, 1), with_digit(ONE_MACHINE, 0, 0, -1),
            outline_machine((2, 2), (1, 1, "one")), outline_machine((2, 3), (1, 2, "pair")),
        ]
        for machine in wrong:
            for rest in (((3, 0), (5, 0), 4, "even"), (None, (0, 0), 0, None)):
                with self.assertRaises(BadMachine) as caught:
                    quotient(machine, *rest)
                self.assertIs(caught.exception.thing, machine)

    def test_wrong_arguments_in_order(self):
        good = (ONE_MACHINE, (3, 0), (5, 0), 4, "even")
        wrong = (
            (1, BadNumber, no_binaries()),
            (2, BadNumber, no_binaries() + [(0, 0)]),
            (3, BadNumber, odd_values() + wrong_integers() + [0, -1, -10 ** 39]),
            (4, BadMode, wrong_modes()),
        )
        for at, error, things in wrong:
            for thing in things:
                for rest in (good[at + 1:], (None,) * (4 - at), (True,) * (4 - at)):
                    with self.assertRaises(error) as caught:
                        quotient(*good[:at], thing, *rest)
                    self.assertIs(caught.exception.thing, thing)

    def test_mode_is_looked_at_also_for_zero(self):
        with self.assertRaises(BadMode):
            quotient(ONE_MACHINE, (0, 0), (5, 0), 4, "odd")


if __name__ == "__main__":
    unittest.main()
