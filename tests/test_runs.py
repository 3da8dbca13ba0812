import unittest
from random import Random

from quotientcells.errors import BadMachine, BadNumber, BadOperands, BadScheme
from quotientcells.runs import is_in_bounds, reduced, remainders, run
from samples import (
    LOOKS, ONE_MACHINE, PAIR_MACHINE, RIGHT, SCHEMES, WRONG_OPERANDS, WRONG_PAIRS, all_operands,
    odd_values, outline_machine, plain_bounds, plain_reduced, plain_run, plain_value, words_of,
    wrong_integers,
)


class ReducedTest(unittest.TestCase):
    def test_example(self):
        self.assertEqual(reduced(6, 3, -5), (-2, 6))

    def test_small_words(self):
        for u in range(-9, 10):
            for v in range(-9, 10):
                for z in range(-9, 10):
                    self.assertEqual(reduced(u, v, z), plain_reduced(u, v, z))

    def test_great_words(self):
        chosen = Random(4)
        for _ in range(200):
            u, v, z = [chosen.randrange(-10 ** 40, 10 ** 40 + 1) for _ in range(3)]
            p, c = reduced(u, v, z)
            self.assertEqual((p, c), plain_reduced(u, v, z))
            self.assertEqual(p + c, u + v + z)
        for u in (10 ** 40, -10 ** 40):
            for v in (10 ** 40, -10 ** 40, 0):
                self.assertEqual(reduced(u, v, 1), plain_reduced(u, v, 1))

    def test_words_that_cancel(self):
        self.assertEqual(reduced(0, 0, 0), (0, 0))
        self.assertEqual(reduced(1, -1, 0), (-2, 2))
        self.assertEqual(reduced(5, -5, -5), (5, -10))

    def test_wrong_words(self):
        for wrong in odd_values() + wrong_integers():
            for words in (
                (wrong, 1, 2), (1, wrong, 2), (1, 2, wrong), (wrong, None, None), (1, wrong, True),
                (wrong, "2", 3),
            ):
                first = [word for word in words if word is wrong][0]
                with self.assertRaises(BadNumber) as caught:
                    reduced(*words)
                self.assertIs(caught.exception.thing, first)

    def test_first_wrong_word_decides(self):
        for words, first in (((None, "a", []), None), ((0, "a", []), "a"), ((0, 0, True), True)):
            with self.assertRaises(BadNumber) as caught:
                reduced(*words)
            self.assertIs(caught.exception.thing, first)


class RunTest(unittest.TestCase):
    def both(self, machine, operands, m):
        """What run and remainders give, compared with a plain run."""
        string, passed = plain_run(machine, operands, m)
        self.assertEqual(run(machine, operands, m), (string, passed[-1]))
        self.assertEqual(remainders(machine, operands, m), passed)
        return string, passed

    def test_examples(self):
        self.assertEqual(run(ONE_MACHINE, (3, 5, 2), 4), ((1, 0, 1, 0), -2))
        self.assertEqual(remainders(ONE_MACHINE, (3, 5, 2), 4), (3, 1, 2, -1, -2))
        self.assertEqual(run(ONE_MACHINE, (3, 5, 2), 0), ((), 3))
        self.assertEqual(run(PAIR_MACHINE, ((3, 0), 5, 2), 1), ((1,), (-3, 4)))
        self.assertEqual(run(PAIR_MACHINE, ((3, 0), 5, 2), 2), ((1, 1), (9, -12)))

    def test_no_steps(self):
        for machine, operands in ((ONE_MACHINE, (-5, 5, 2)), (PAIR_MACHINE, ((9, -6), 5, 2))):
            self.assertEqual(run(machine, operands, 0), ((), operands[0]))
            self.assertEqual(remainders(machine, operands, 0), (operands[0],))

    def test_small_widths(self):
        for machine in (ONE_MACHINE, PAIR_MACHINE):
            for n in (1, 2, 3):
                for operands in all_operands((1, 1), machine[1][2], n):
                    for m in (1, 2, 5):
                        self.both(machine, operands, m)

    def test_machines_of_all_schemes_and_looks(self):
        chosen = Random(6)
        for k, a in SCHEMES:
            for look in LOOKS:
                machine = outline_machine((k, a), look)
                for n in (1, 3, 11, 40):
                    d = chosen.randrange(2 ** n, 2 ** (n + 1))
                    most = a * d // (2 ** k - 1)
                    x, c = chosen.randint(-most, most), chosen.randrange(-2 ** n, 2 ** n)
                    dividend = x if look[2] == "one" else (x - c, c)
                    self.both(machine, (dividend, d, n), 6)

    def test_many_steps(self):
        for n in (1, 40):
            d = 2 ** (n + 1) - 1
            for x in (d, -d, d - 1, 1, 0):
                string, _ = self.both(ONE_MACHINE, (x, d, n), 40)
                self.assertEqual(len(string), 40)
                string, _ = self.both(PAIR_MACHINE, ((x - d, d), d, n), 40)
                self.assertEqual(len(string), 40)

    def test_value_and_remainder_make_up_the_dividend(self):
        for scheme in ((1, 1), (2, 2), (3, 7)):
            r = 2 ** scheme[0]
            for look in ((2, 1, "one"), (1, 2, "pair")):
                machine = outline_machine(scheme, look)
                for operands in list(all_operands(scheme, look[2], 3))[::7]:
                    dividend, d, _ = operands
                    string, _ = run(machine, operands, 5)
                    passed = remainders(machine, operands, 5)
                    self.assertEqual(len(passed), len(string) + 1)
                    for j, remainder in enumerate(passed):
                        left = sum(words_of(look[2], dividend)) * r ** j
                        rest = sum(words_of(look[2], remainder))
                        self.assertEqual(left, plain_value(scheme, string[:j]) * d + rest)

    def test_words_that_cancel(self):
        for great in (1, 2, 7, 10 ** 39):
            string, passed = self.both(PAIR_MACHINE, ((great, -great), 5, 2), 4)
            self.assertEqual(sum(passed[-1]), -plain_value((1, 1), string) * 5)

    def test_ends_early_in_the_first_step(self):
        table = ((1, (1,)),)
        for kind, dividend in (("one", 1), ("pair", (3, -2))):
            machine = ((1, 1), (0, 0, kind), table)
            for m in (1, 2, 40):
                self.assertEqual(run(machine, (dividend, 5, 2), m), ((), dividend))
                self.assertEqual(remainders(machine, (dividend, 5, 2), m), (dividend,))

    def test_ends_early_in_a_later_step(self):
        machine = ((1, 1), (0, 0, "one"), ((-4, (-1, -1, -1, 0, 0, 0, 1, 1)),))
        # The remainder 3 takes the digit 0 and becomes 6, then 8, beyond the row.
        self.assertEqual(run(machine, (3, 4, 2), 2), ((0, 1), 8))
        self.assertEqual(run(machine, (3, 4, 2), 3), ((0, 1), 8))
        self.assertEqual(run(machine, (3, 4, 2), 40), ((0, 1), 8))
        self.assertEqual(remainders(machine, (3, 4, 2), 40), (3, 6, 8))

    def test_rows_shorter_than_the_reached_cells(self):
        for k, a in SCHEMES:
            for look in ((1, 1, "one"), (1, 1, "pair")):
                full = outline_machine((k, a), look)
                shorter = tuple((low + 1, string[1:-1]) for low, string in full[2])
                for d in (2 ** 38 * 3 - 1, 2 ** 40 - 1):
                    x = a * d // (2 ** k - 1)
                    # The first operands fall into the greatest reached cell, the others into the next one.
                    for dividend, many in ((x, 0), (x - 2 ** (39 - 1 - k), 1)):
                        operands = (dividend if look[2] == "one" else (dividend, 0), d, 39)
                        self.assertEqual(len(self.both(full, operands, 1)[0]), 1)
                        string, _ = self.both(((k, a), look, shorter), operands, 1)
                        self.assertEqual(len(string), many)

    def test_remainders_out_of_bounds(self):
        # The row selects 0 for all it has, so the remainder is doubled until it is beyond the row.
        machine = ((1, 1), (0, 0, "one"), ((-200, (0,) * 400),))
        self.assertEqual(remainders(machine, (3, 5, 2), 9), tuple(3 * 2 ** j for j in range(9)))
        self.assertEqual(remainders(machine, (-3, 5, 2), 9), tuple(-3 * 2 ** j for j in range(9)))
        self.assertEqual(run(machine, (0, 5, 2), 40), ((0,) * 40, 0))

    def test_right_machines_stay_in_bounds(self):
        for scheme, look in RIGHT:
            machine = outline_machine(scheme, look)
            for operands in list(all_operands(scheme, look[2], 3))[::5]:
                passed = remainders(machine, operands, 6)
                self.assertEqual(len(passed), 7)
                for remainder in passed:
                    w = sum(words_of(look[2], remainder))
                    self.assertIs(is_in_bounds(scheme, w, operands[1]), True)

    def test_kinds_of_the_results(self):
        string, last = run(PAIR_MACHINE, ((3, 0), 5, 2), 3)
        self.assertEqual([type(string), type(last)], [tuple, tuple])
        self.assertEqual([type(digit) for digit in string], [int] * 3)
        self.assertIs(type(remainders(ONE_MACHINE, (3, 5, 2), 3)), tuple)

    def test_wrong_operands(self):
        wrong_ones = odd_values() + wrong_integers() + WRONG_OPERANDS + [((3, 0), 5, 2)]
        wrong_pairs = odd_values() + wrong_integers() + WRONG_PAIRS
        for machine, wrong in ((ONE_MACHINE, wrong_ones), (PAIR_MACHINE, wrong_pairs)):
            for operands in wrong:
                for m in (1, None, -1, True):
                    for function in (run, remainders):
                        with self.assertRaises(BadOperands) as caught:
                            function(machine, operands, m)
                        self.assertIs(caught.exception.thing, operands)

    def test_operands_at_the_bounds_and_one_beyond(self):
        for k, a in SCHEMES:
            for kind in ("one", "pair"):
                machine = outline_machine((k, a), (1, 1, kind))
                for d, n in ((4, 2), (7, 2), (2 ** 40, 40), (2 ** 41 - 1, 40)):
                    most = a * d // (2 ** k - 1)
                    for x in (most, -most):
                        self.both(machine, (x if kind == "one" else (x + 5, -5), d, n), 3)
                    for x in (most + 1, -most - 1):
                        operands = (x if kind == "one" else (x + 5, -5), d, n)
                        with self.assertRaises(BadOperands) as caught:
                            run(machine, operands, 3)
                        self.assertIs(caught.exception.thing, operands)

    def test_wrong_m(self):
        for machine, operands in ((ONE_MACHINE, (3, 5, 2)), (PAIR_MACHINE, ((3, 0), 5, 2))):
            for m in odd_values() + wrong_integers() + [-1, -10 ** 39]:
                for function in (run, remainders):
                    with self.assertRaises(BadNumber) as caught:
                        function(machine, operands, m)
                    self.assertIs(caught.exception.thing, m)

    def test_machine_is_looked_at_first(self):
        for machine in odd_values() + [ONE_MACHINE[:2], list(ONE_MACHINE), ((2, 1),) + ONE_MACHINE[1:]]:
            for operands, m in (((3, 5, 2), 1), (None, 1), ((3, 5, 2), None), (None, None)):
                for function in (run, remainders):
                    with self.assertRaises(BadMachine) as caught:
                        function(machine, operands, m)
                    self.assertIs(caught.exception.thing, machine)


class InBoundsTest(unittest.TestCase):
    def test_examples(self):
        self.assertIs(is_in_bounds((1, 1), -5, 5), True)
        self.assertIs(is_in_bounds((2, 2), 4, 5), False)

    def test_small_numbers(self):
        for scheme in SCHEMES:
            for d in range(1, 20):
                for w in range(-25, 26):
                    self.assertIs(is_in_bounds(scheme, w, d), plain_bounds(scheme, w, d))

    def test_divisors_need_no_width(self):
        self.assertIs(is_in_bounds((1, 1), 1, 1), True)
        self.assertIs(is_in_bounds((1, 1), 2, 1), False)
        self.assertIs(is_in_bounds((2, 2), 0, 1), True)

    def test_great_numbers(self):
        for k, a in SCHEMES:
            for d in (10 ** 40, 10 ** 40 - 1, 3 ** 80):
                most = a * d // (2 ** k - 1)
                for sign in (1, -1):
                    self.assertIs(is_in_bounds((k, a), sign * most, d), True)
                    self.assertIs(is_in_bounds((k, a), sign * (most + 1), d), False)

    def test_what_is_out_of_bounds_stays_out(self):
        for k, a in SCHEMES:
            r = 2 ** k
            for d in (1, 2, 5, 7):
                for w in range(-3 * d, 3 * d + 1):
                    excess = abs(w) * (r - 1) - a * d
                    self.assertIs(is_in_bounds((k, a), w, d), excess <= 0)
                    for q in range(-a, a + 1):
                        if excess > 0:
                            after = r * w - q * d
                            self.assertIs(is_in_bounds((k, a), after, d), False)
                            self.assertGreaterEqual(abs(after) * (r - 1) - a * d, r * excess)

    def test_wrong_numbers(self):
        for wrong in odd_values() + wrong_integers():
            for w, d in ((wrong, 5), (wrong, 0), (wrong, None)):
                with self.assertRaises(BadNumber) as caught:
                    is_in_bounds((1, 1), w, d)
                self.assertIs(caught.exception.thing, wrong)
        for wrong in odd_values() + wrong_integers() + [0, -1, -10 ** 39]:
            with self.assertRaises(BadNumber) as caught:
                is_in_bounds((1, 1), 0, wrong)
            self.assertIs(caught.exception.thing, wrong)

    def test_scheme_is_looked_at_first(self):
        for scheme in odd_values() + [(2, 1), [1, 1]]:
            for w, d in ((0, 1), (None, 1), (0, 0), (None, None)):
                with self.assertRaises(BadScheme) as caught:
                    is_in_bounds(scheme, w, d)
                self.assertIs(caught.exception.thing, scheme)


if __name__ == "__main__":
    unittest.main()
