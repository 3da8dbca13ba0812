import unittest
from random import Random

from quotientcells.errors import BadMachine, BadNumber, BadOperands
from quotientcells.judge import finished, is_right, judge_machine, machine_holds
from samples import (
    LOOKS, ONE_MACHINE, PAIR_MACHINE, RIGHT, SCHEMES, WRONG_MACHINE, WRONG_OPERANDS,
    WRONG_PAIRS, all_operands, longer, odd_values, outline_lots, outline_machine, plain_bounds,
    plain_errs, plain_finished, plain_quotient, plain_right, shorter, with_digit, words_of,
    wrong_integers,
)

def digits_of(scheme):
    return range(-scheme[1], scheme[1] + 1)


class FinishedTest(unittest.TestCase):
    def test_examples(self):
        self.assertEqual(finished(ONE_MACHINE, (3, 5, 2), 4), (9, 3))
        self.assertEqual(finished(WRONG_MACHINE, (3, 4, 2), 2), (2, 4))
        self.assertIs(finished(WRONG_MACHINE, (3, 4, 2), 3), None)

    def test_no_steps(self):
        for x, expected in ((3, (0, 3)), (-3, (-1, 2)), (5, (1, 0)), (-5, (-1, 0)), (0, (0, 0))):
            self.assertEqual(finished(ONE_MACHINE, (x, 5, 2), 0), expected)
            for c in (0, 1, -7):
                self.assertEqual(finished(PAIR_MACHINE, ((x - c, c), 5, 2), 0), expected)

    def test_remainders_at_the_ends(self):
        # A row that selects 0 leaves the remainder as it was, but for the radix.
        machine = ((1, 1), (0, 0, "one"), ((-300, (0,) * 600),))
        for x, m, expected in (
            (1, 3, (1, 8 - 5)), (1, 2, (0, 4)), (5, 0, (1, 0)), (-1, 2, (-1, 1)), (-1, 3, (-1, -3)),
            (-5, 0, (-1, 0)), (5, 1, (1, 5)), (-5, 1, (-1, -5)), (4, 0, (0, 4)),
        ):
            self.assertEqual(finished(machine, (x, 5, 2), m), expected)
            self.assertEqual(plain_finished(machine, (x, 5, 2), m), expected)

    def test_sixty_steps(self):
        for machine, dividends in (
            (ONE_MACHINE, (5, -5, 1, 0, -3)), (PAIR_MACHINE, ((5, 0), (-10, 5), (9, -8), (0, 0), (4, -7))),
        ):
            for dividend in dividends:
                quotient, w = finished(machine, (dividend, 5, 2), 60)
                x = sum(words_of(machine[1][2], dividend))
                self.assertEqual((quotient, w), divmod(x * 2 ** 60, 5))

    def test_right_machines_are_exact(self):
        for scheme, look in RIGHT:
            machine = outline_machine(scheme, look)
            for n in (1, 2, 3):
                for operands in list(all_operands(scheme, look[2], n))[::3]:
                    for m in (0, 1, 2, 5):
                        quotient, w = finished(machine, operands, m)
                        exact = plain_quotient(scheme, look[2], operands, m)
                        self.assertEqual(quotient, exact.numerator // exact.denominator)
                        self.assertEqual(w, (exact - quotient) * operands[1])

    def test_any_machine(self):
        chosen = Random(11)
        seen = {"none": 0, "exact": 0, "above": 0, "below": 0}
        for k, a in SCHEMES:
            for look in LOOKS:
                # Without suitable digits this machine is wrong for many operands.
                machine = longer(outline_machine((k, a), look), 0)
                for _ in range(12):
                    i = chosen.randrange(2 ** look[1])
                    lowest, string = machine[2][i]
                    y = lowest + chosen.randrange(len(string))
                    machine = with_digit(machine, i, y, chosen.choice(digits_of((k, a))))
                for n in (1, 2, 7, 40):
                    d = chosen.randrange(2 ** n, 2 ** (n + 1))
                    most = a * d // (2 ** k - 1)
                    x, c = chosen.randint(-most, most), chosen.randrange(-2 ** n, 2 ** n)
                    dividend = x if look[2] == "one" else (x - c, c)
                    for m in (0, 1, 2, 3, 6, 14):
                        expected = plain_finished(machine, (dividend, d, n), m)
                        self.assertEqual(finished(machine, (dividend, d, n), m), expected)
                        if expected is None:
                            seen["none"] += 1
                        elif 0 <= expected[1] < d:
                            seen["exact"] += 1
                        else:
                            seen["above" if expected[1] >= d else "below"] += 1
        self.assertTrue(all(many > 10 for many in seen.values()), seen)

    def test_kinds_of_the_results(self):
        found = finished(PAIR_MACHINE, ((3, 0), 5, 2), 3)
        self.assertEqual([type(found)] + [type(part) for part in found], [tuple, int, int])

    def test_wrong_arguments(self):
        for machine in odd_values() + wrong_integers() + [ONE_MACHINE[:2], list(ONE_MACHINE)]:
            for operands, m in (((3, 5, 2), 1), (None, 1), ((3, 5, 2), None), (None, None)):
                with self.assertRaises(BadMachine) as caught:
                    finished(machine, operands, m)
                self.assertIs(caught.exception.thing, machine)
        for machine, wrong in ((ONE_MACHINE, WRONG_OPERANDS), (PAIR_MACHINE, WRONG_PAIRS)):
            for operands in odd_values() + wrong_integers() + wrong:
                for m in (0, 1, None, -1, True):
                    with self.assertRaises(BadOperands) as caught:
                        finished(machine, operands, m)
                    self.assertIs(caught.exception.thing, operands)
            good = (3, 5, 2) if machine is ONE_MACHINE else ((3, 0), 5, 2)
            for m in odd_values() + wrong_integers() + [-1, -10 ** 39]:
                with self.assertRaises(BadNumber) as caught:
                    finished(machine, good, m)
                self.assertIs(caught.exception.thing, m)


class RightTest(unittest.TestCase):
    def check(self, machine):
        """Compare what the package says of a machine with its outlines; give the certificate."""
        right = plain_right(machine)
        self.assertIs(is_right(machine), right)
        found = judge_machine(machine)
        self.assertIs(type(found), tuple)
        self.assertIs(machine_holds(machine, found), True)
        self.assertIs(machine_holds(machine, ("right",)), right)
        if right:
            self.assertEqual(found, ("right",))
            return found
        self.assertEqual((len(found), found[0]), (3, "errs"))
        _, operands, m = found
        self.assertTrue(type(m) is int and 0 <= m <= 60)
        dividend, d, n = operands
        words = words_of(machine[1][2], dividend)
        self.assertEqual(len(words), 1 if machine[1][2] == "one" else 2)
        self.assertTrue(1 <= n <= 40 and 2 ** n <= d < 2 ** (n + 1))
        self.assertTrue(all(type(word) is int and abs(word) <= 10 ** 40 for word in words))
        self.assertTrue(plain_bounds(machine[0], sum(words), d))
        self.assertTrue(plain_errs(machine, operands, m))
        return found

    def test_examples(self):
        self.assertEqual(judge_machine(ONE_MACHINE), ("right",))
        self.assertEqual(judge_machine(WRONG_MACHINE)[0], "errs")
        self.assertIs(is_right(WRONG_MACHINE), False)
        self.assertIs(is_right(PAIR_MACHINE), True)

    def test_all_schemes_and_looks(self):
        right = 0
        for scheme in SCHEMES:
            for look in LOOKS:
                right += self.check(outline_machine(scheme, look)) == ("right",)
        self.assertGreater(right, 20)

    def test_all_small_tables(self):
        # All tables with digits for exactly the cells from -4 to 3: four of them are right.
        lots = [(-1, 0, 1)] * 8
        lots[0] = lots[1] = (-1, 1)
        tables = [()]
        for lot in lots:
            tables = [table + (digit,) for table in tables for digit in lot]
        found = 0
        for table in tables:
            found += is_right(((1, 1), (0, 0, "one"), ((-4, table),)))
        self.assertEqual(found, 4)

    def test_one_digit_changed(self):
        for scheme, look in RIGHT[:3] + RIGHT[5:6]:
            machine = outline_machine(scheme, look)
            for i, row in enumerate(outline_lots(scheme, look)):
                for y, lot in row.items():
                    for digit in digits_of(scheme):
                        found = self.check(with_digit(machine, i, y, digit))
                        self.assertEqual(found[0], "right" if digit in lot else "errs")

    def test_one_digit_changed_in_great_tables(self):
        chosen = Random(5)
        for scheme, look in RIGHT:
            machine = outline_machine(scheme, look)
            for _ in range(6):
                i = chosen.randrange(2 ** look[1])
                row = outline_lots(scheme, look)[i]
                y = chosen.choice(sorted(row))
                lot = row[y]
                for digit in (lot[0] - 1, lot[0], lot[-1], lot[-1] + 1):
                    if digit in digits_of(scheme):
                        found = self.check(with_digit(machine, i, y, digit))
                        self.assertEqual(found[0], "right" if digit in lot else "errs")

    def test_one_digit_left_out(self):
        for scheme, look in RIGHT:
            machine = outline_machine(scheme, look)
            for i in sorted({0, 2 ** look[1] - 1}):
                for left, right in ((1, 0), (0, 1)):
                    found = self.check(shorter(machine, i, left, right))
                    self.assertEqual(found[0], "errs")

    def test_cells_that_are_not_reached(self):
        for scheme, look in RIGHT:
            machine = outline_machine(scheme, look)
            for digit in (-scheme[1], 0, scheme[1]):
                wide = longer(machine, digit)
                self.assertEqual(self.check(wide), ("right",))
                for i in (0, 2 ** look[1] - 1):
                    self.assertEqual(self.check(shorter(wide, i, 1, 0)), ("right",))
                    self.assertEqual(self.check(shorter(wide, i, 0, 1)), ("right",))
                    self.assertEqual(self.check(shorter(wide, i, 1, 1)), ("right",))
                    self.assertEqual(self.check(shorter(wide, i, 2, 1))[0], "errs")
                    self.assertEqual(self.check(shorter(wide, i, 1, 2))[0], "errs")

    def test_rows_far_from_the_reached_cells(self):
        for look in ((0, 0, "one"), (1, 1, "pair"), (4, 2, "one"), (2, 4, "pair")):
            for lowest in (-2100, 2100, -500):
                for scheme in ((1, 1), (2, 2), (3, 7)):
                    machine = (scheme, look, ((lowest, (0,)),) * 2 ** look[1])
                    self.assertEqual(self.check(machine)[0], "errs")

    def test_the_same_digit_everywhere(self):
        for scheme in SCHEMES:
            for look in ((0, 0, "one"), (0, 1, "pair"), (2, 0, "pair"), (1, 2, "one")):
                for digit in (-scheme[1], 0, 1, scheme[1]):
                    machine = (scheme, look, ((-300, (digit,) * 600),) * 2 ** look[1])
                    self.assertEqual(self.check(machine)[0], "errs")

    def test_right_machines_stay_right_on_all_operands(self):
        for scheme, look in (RIGHT[0], RIGHT[1], RIGHT[5]):
            machine = outline_machine(scheme, look)
            for n in (1, 2, 3):
                for operands in all_operands(scheme, look[2], n):
                    self.assertFalse(plain_errs(machine, operands, 7))
                    self.assertIs(machine_holds(machine, ("errs", operands, 7)), False)

    def test_looks_at_the_limits(self):
        for scheme, look in (((2, 2), (2, 4, "one")), ((3, 7), (4, 2, "pair")), ((3, 6), (2, 4, "one"))):
            machine = outline_machine(scheme, look)
            self.check(machine)
            self.check(with_digit(machine, 3, machine[2][3][0] + 9, scheme[1]))
            self.check(shorter(machine, 1, 0, 1))


class MachineHoldsTest(unittest.TestCase):
    def test_examples(self):
        for m, right in ((1, False), (2, True), (3, True)):
            self.assertIs(machine_holds(WRONG_MACHINE, ("errs", (3, 4, 2), m)), right)
        self.assertIs(machine_holds(ONE_MACHINE, ("errs", (3, 5, 2), 4)), False)

    def test_certificates_of_others(self):
        wrong_pair = ((1, 1), (0, 0, "pair"), ((-5, (-1, -1, -1, 0, 0, 1, 1, 1)),))
        short = ((2, 3), (0, 1, "one"), ((-6, (-3, -2, -1, 0, 1, 2)), (-8, (-3,) * 5 + (0,) * 9)))
        for machine in (WRONG_MACHINE, wrong_pair, short, ONE_MACHINE):
            scheme, look, _ = machine
            held = 0
            for n in (1, 2, 3):
                for operands in list(all_operands(scheme, look[2], n))[::3]:
                    for m in (0, 1, 2, 3, 7):
                        expected = plain_errs(machine, operands, m)
                        held += expected
                        thing = ("errs", operands, m)
                        self.assertIs(machine_holds(machine, thing), expected)
            self.assertEqual(held > 0, not plain_right(machine))

    def test_number_of_steps(self):
        ends = (3, 4, 2)
        for m, right in ((-1, False), (0, False), (2, True), (59, True), (60, True), (61, False),
                         (10 ** 39, False), (-10 ** 39, False)):
            self.assertIs(machine_holds(WRONG_MACHINE, ("errs", ends, m)), right)

    def test_ends_early_in_the_first_step(self):
        machine = ((1, 1), (0, 0, "one"), ((1, (1,)),))
        for m, right in ((0, False), (1, True), (60, True)):
            self.assertIs(machine_holds(machine, ("errs", (1, 5, 2), m)), right)

    def test_not_mended_after_no_step(self):
        # Before the first step each remainder is in bounds, so no machine errs with 0 steps.
        for x in (-4, -1, 0, 3, 4):
            self.assertIs(machine_holds(WRONG_MACHINE, ("errs", (x, 4, 2), 0)), False)

    def test_operands_of_great_widths(self):
        for n in (2, 40, 60, 100):
            scale = 2 ** (n - 2)
            for m, right in ((1, False), (2, True), (3, True)):
                thing = ("errs", (3 * scale, 4 * scale, n), m)
                self.assertIs(machine_holds(WRONG_MACHINE, thing), right)

    def test_things_that_are_no_certificates(self):
        good = (3, 4, 2)
        wrong = odd_values() + wrong_integers() + [
            "right", "errs", ["right"], ("Right",), ("right", None), ("right", "right"), (("right",),),
            ("right", good, 2), ("errs",), ("errs", good), ("errs", good, 2, 2), ("errs", good, True),
            ("errs", good, None), ("errs", good, "2"), ("errs", good, (2,)), ["errs", good, 2],
            ("errs", list(good), 2), ("errs", (3, 4), 2), ("errs", (3, 4, 2, 2), 2), ("err", good, 2),
            ("errs", (True, 4, 2), 3), ("errs", (3, 4, True), 3), ("errs", (3, 3, 2), 3),
            ("errs", (3, 8, 2), 3), ("errs", (5, 4, 2), 3), ("errs", ((3, 0), 4, 2), 3),
            ("errs", None, 2), ("errs", 2, good), ("errs", good, -2), ("errs", good, False),
            ("errs", (3, 4, 10 ** 39), 3), (None, good, 2), {"errs": good}, ("operands", good),
            ("errs", 3, 4, 2, 3), ("suits",), ("errs", (good,), 2), ("errs", good, [2]),
        ]
        for machine in (WRONG_MACHINE, ONE_MACHINE):
            for thing in wrong:
                self.assertIs(machine_holds(machine, thing), False, thing)
        self.assertIs(machine_holds(WRONG_MACHINE, ("right",)), False)
        self.assertIs(machine_holds(WRONG_MACHINE, ("errs", good, 2)), True)

    def test_pairs_need_pairs(self):
        machine = ((1, 1), (0, 0, "pair"), ((-5, (0,) * 9),))
        self.assertIs(machine_holds(machine, ("errs", ((4, 0), 4, 2), 2)), True)
        for dividend in (4, (4,), [4, 0], (4, 0, 0), (4, False), (True, 3), (4, 1), (9, -4)):
            self.assertIs(machine_holds(machine, ("errs", (dividend, 4, 2), 2)), False)

    def test_wrong_machines_raise(self):
        wrong = odd_values() + wrong_integers() + [
            ONE_MACHINE[:2], list(ONE_MACHINE), ONE_MACHINE + (0,), ((2, 1),) + ONE_MACHINE[1:],
            ((1, 1), (0, 1, "one"), ONE_MACHINE[2]), ((1, 1), (0, 0, "one"), ((-4, (2,)),)),
            ((1, 1), (0, 0, "one"), ((-4, (True,)),)), ((1, 1), (0, 0, "one"), ((-4, ()),)),
        ]
        for machine in wrong:
            for call in (
                lambda: is_right(machine), lambda: judge_machine(machine),
                lambda: machine_holds(machine, ("right",)), lambda: machine_holds(machine, None),
            ):
                with self.assertRaises(BadMachine) as caught:
                    call()
                self.assertIs(caught.exception.thing, machine)


if __name__ == "__main__":
    unittest.main()
