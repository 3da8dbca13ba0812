import unittest
from fractions import Fraction
from random import Random

from quotientcells.errors import BadMachine, BadMode, BadNumber, BadOperands, BadScheme
from quotientcells.judge import finished
from quotientcells.rounding import divide, exact, rounded
from samples import (
    LOOKS, MODES, ONE_MACHINE, PAIR_MACHINE, SCHEMES, WRONG_MACHINE, WRONG_OPERANDS, WRONG_PAIRS,
    all_operands, odd_values, outline_machine, plain_finished, plain_quotient, plain_right,
    plain_rounded, with_digit, wrong_integers, wrong_modes,
)

WRONG_FRACTIONS = [
    (1, 0), (0, 0), (0, 2), (2, 4), (-2, 4), (1, -2), (-1, -1), (6, 3), (3, 3), (1,), (1, 2, 3), [1, 2],
    (True, 2), (1, True), (1, None), ("1", 2), (1, "2"), ((1, 2),), (0, -1), {1: 2}, 1, "1/2",
]


def with_rests(quotient, w, d, mode):
    """What [8.3] says of a pair (Q, w)."""
    near = 2 * w > d or (2 * w == d and quotient % 2 != 0)
    more = {"down": False, "up": True, "zero": quotient < 0, "even": near}[mode]
    return quotient + (w != 0 and more)


class RoundedTest(unittest.TestCase):
    def test_examples(self):
        self.assertEqual([rounded((5, 2), "even"), rounded((-7, 2), "even")], [2, -4])

    def test_small_fractions(self):
        for bottom in range(1, 13):
            for top in range(-40, 41):
                fraction = Fraction(top, bottom)
                pair = (fraction.numerator, fraction.denominator)
                for mode in MODES:
                    self.assertEqual(rounded(pair, mode), plain_rounded(fraction, mode))

    def test_halves(self):
        for top, found in (
            (1, (0, 1, 0, 0)), (3, (1, 2, 1, 2)), (5, (2, 3, 2, 2)), (-1, (-1, 0, 0, 0)),
            (-3, (-2, -1, -1, -2)), (-5, (-3, -2, -2, -2)),
        ):
            self.assertEqual(tuple(rounded((top, 2), mode) for mode in MODES), found)

    def test_integers(self):
        for number in (0, 1, -1, 2, -2, 7, 10 ** 60, -10 ** 60):
            for mode in MODES:
                self.assertEqual(rounded((number, 1), mode), number)

    def test_great_fractions(self):
        for bottom in (10 ** 60, 10 ** 60 - 1, 2 ** 199, 3 ** 125):
            for top in (10 ** 60 - 7, 5 * 10 ** 59 + 1, bottom // 2 + 1, bottom + 1, 1):
                for sign in (1, -1):
                    fraction = Fraction(sign * top, bottom)
                    pair = (fraction.numerator, fraction.denominator)
                    for mode in MODES:
                        self.assertEqual(rounded(pair, mode), plain_rounded(fraction, mode))

    def test_kinds_of_the_results(self):
        for mode in MODES:
            self.assertIs(type(rounded((1, 2), mode)), int)
            self.assertIs(type(rounded((1, 1), mode)), int)

    def test_wrong_arguments(self):
        for fraction in odd_values() + wrong_integers() + WRONG_FRACTIONS:
            for mode in ("even", None, "half"):
                with self.assertRaises(BadNumber) as caught:
                    rounded(fraction, mode)
                self.assertIs(caught.exception.thing, fraction)
        for mode in wrong_modes():
            with self.assertRaises(BadMode) as caught:
                rounded((1, 2), mode)
            self.assertIs(caught.exception.thing, mode)


class ExactTest(unittest.TestCase):
    def test_examples(self):
        found = [exact((1, 1), "one", (-3, 5, 2), 4, mode) for mode in MODES]
        self.assertEqual(found, [-10, -9, -9, -10])

    def test_small_operands(self):
        for scheme in SCHEMES:
            for kind in ("one", "pair"):
                for n in (1, 2):
                    for operands in list(all_operands(scheme, kind, n))[::2]:
                        for m in (0, 1, 2):
                            quotient = plain_quotient(scheme, kind, operands, m)
                            for mode in MODES:
                                expected = plain_rounded(quotient, mode)
                                self.assertEqual(exact(scheme, kind, operands, m, mode), expected)

    def test_great_operands(self):
        chosen = Random(8)
        for k, a in SCHEMES:
            for n in (33, 40):
                d = chosen.randrange(2 ** n, 2 ** (n + 1))
                most = a * d // (2 ** k - 1)
                for x in (most, -most, most - 1, 1, -1, 0):
                    for m in (0, 1, 39, 40):
                        quotient = plain_quotient((k, a), "one", (x, d, n), m)
                        for mode in MODES:
                            expected = plain_rounded(quotient, mode)
                            self.assertEqual(exact((k, a), "one", (x, d, n), m, mode), expected)
                            pair = ((x - 10 ** 40, 10 ** 40), d, n)
                            self.assertEqual(exact((k, a), "pair", pair, m, mode), expected)

    def test_halves_and_multiples(self):
        # 2 / 4 is a half before the first step, and an integer from the first step on.
        for x, m, found in (
            (2, 0, (0, 1, 0, 0)), (-2, 0, (-1, 0, 0, 0)), (2, 1, (1, 1, 1, 1)), (-2, 1, (-1,) * 4),
            (3, 1, (1, 2, 1, 2)), (-3, 1, (-2, -1, -1, -2)), (1, 1, (0, 1, 0, 0)), (4, 0, (1,) * 4),
            (0, 40, (0,) * 4), (-4, 3, (-8,) * 4),
        ):
            self.assertEqual(tuple(exact((1, 1), "one", (x, 4, 2), m, mode) for mode in MODES), found)

    def test_wrong_arguments_in_order(self):
        good = ((1, 1), "one", (3, 5, 2), 4, "even")
        wrong = (
            (0, BadScheme, odd_values() + wrong_integers() + [(2, 1), [1, 1]]),
            (1, BadNumber, odd_values() + wrong_integers() + ["two", "One", ["one"], ("one",)]),
            (2, BadOperands, odd_values() + wrong_integers() + WRONG_OPERANDS + [((3, 0), 5, 2)]),
            (3, BadNumber, odd_values() + wrong_integers() + [-1, -10 ** 39]),
            (4, BadMode, wrong_modes()),
        )
        for at, error, things in wrong:
            for thing in things:
                for rest in (good[at + 1:], (None,) * (4 - at), (True,) * (4 - at)):
                    with self.assertRaises(error) as caught:
                        exact(*good[:at], thing, *rest)
                    self.assertIs(caught.exception.thing, thing)
        for operands in WRONG_PAIRS:
            with self.assertRaises(BadOperands) as caught:
                exact((1, 1), "pair", operands, 4, "even")
            self.assertIs(caught.exception.thing, operands)


class DivideTest(unittest.TestCase):
    def test_examples(self):
        self.assertEqual([divide(ONE_MACHINE, (3, 5, 2), 4, mode) for mode in MODES], [9, 10, 9, 10])

    def test_right_machines_are_exact(self):
        many = 0
        for scheme in SCHEMES:
            for look in LOOKS:
                machine = outline_machine(scheme, look)
                if not plain_right(machine):
                    continue
                many += 1
                for operands in list(all_operands(scheme, look[2], 2))[::5]:
                    for m in (0, 1, 4):
                        quotient = plain_quotient(scheme, look[2], operands, m)
                        for mode in MODES:
                            expected = plain_rounded(quotient, mode)
                            self.assertEqual(divide(machine, operands, m, mode), expected)
                            self.assertEqual(exact(scheme, look[2], operands, m, mode), expected)
        self.assertGreater(many, 20)

    def test_many_steps(self):
        for x in (5, -5, 3, -3, 1, -1, 0):
            for m in (39, 40):
                for mode in MODES:
                    expected = plain_rounded(Fraction(x * 2 ** m, 5), mode)
                    self.assertEqual(divide(ONE_MACHINE, (x, 5, 2), m, mode), expected)
                    self.assertEqual(divide(PAIR_MACHINE, ((x + 9, -9), 5, 2), m, mode), expected)

    def test_any_machine(self):
        chosen = Random(3)
        seen = {"none": 0, "exact": 0, "inexact": 0}
        for k, a in SCHEMES:
            for look in ((0, 0, "one"), (1, 1, "pair"), (2, 1, "one")):
                machine = outline_machine((k, a), look)
                for _ in range(6):
                    i = chosen.randrange(2 ** look[1])
                    lowest, string = machine[2][i]
                    y = lowest + chosen.randrange(len(string))
                    machine = with_digit(machine, i, y, chosen.randint(-a, a))
                for operands in list(all_operands((k, a), look[2], 2))[::2]:
                    for m in (0, 1, 2, 3):
                        end = plain_finished(machine, operands, m)
                        self.assertEqual(finished(machine, operands, m), end)
                        for mode in MODES:
                            found = divide(machine, operands, m, mode)
                            if end is None:
                                seen["none"] += 1
                                self.assertIs(found, None)
                                continue
                            seen["exact" if 0 <= end[1] < operands[1] else "inexact"] += 1
                            self.assertEqual(found, with_rests(*end, operands[1], mode))
        self.assertTrue(all(many > 100 for many in seen.values()), seen)

    def test_rests_beyond_the_divisor(self):
        # A row that selects 0 finishes with 1 and 5, with -1 and -5, with 1 and 0, with 2 and 10 ..
        machine = ((1, 1), (0, 0, "one"), ((-300, (0,) * 600),))
        for x, m, found in (
            (5, 1, (1, 2, 1, 2)), (-5, 1, (-1, 0, 0, -1)), (5, 0, (1, 1, 1, 1)), (3, 3, (1, 2, 1, 2)),
            (-3, 3, (-1, 0, 0, -1)), (-1, 3, (-1, 0, 0, -1)), (1, 3, (1, 2, 1, 2)), (0, 9, (0, 0, 0, 0)),
        ):
            self.assertEqual(tuple(divide(machine, (x, 5, 2), m, mode) for mode in MODES), found)

    def test_a_run_that_ends_early(self):
        for mode in MODES:
            self.assertEqual(divide(WRONG_MACHINE, (3, 4, 2), 2, mode), 2 if mode in ("down", "zero") else 3)
            self.assertIs(divide(WRONG_MACHINE, (3, 4, 2), 3, mode), None)
            self.assertIs(divide(((1, 1), (0, 0, "one"), ((9, (1,)),)), (3, 4, 2), 1, mode), None)

    def test_wrong_arguments_in_order(self):
        good = (WRONG_MACHINE, (3, 4, 2), 3, "even")
        wrong = (
            (0, BadMachine, odd_values() + wrong_integers() + [ONE_MACHINE[:2], list(ONE_MACHINE)]),
            (1, BadOperands, odd_values() + wrong_integers() + WRONG_OPERANDS + [((3, 0), 5, 2)]),
            (2, BadNumber, odd_values() + wrong_integers() + [-1, -10 ** 39]),
            # Also where the run ends early and there is nothing to round.
            (3, BadMode, wrong_modes()),
        )
        for at, error, things in wrong:
            for thing in things:
                for rest in (good[at + 1:], (None,) * (3 - at), (True,) * (3 - at)):
                    with self.assertRaises(error) as caught:
                        divide(*good[:at], thing, *rest)
                    self.assertIs(caught.exception.thing, thing)


if __name__ == "__main__":
    unittest.main()
