import unittest
from fractions import Fraction
from random import Random

from quotientcells.errors import BadMachine, BadNumber
from quotientcells.widths import bad_operands, least_width, share
from samples import (
    ONE_MACHINE, PAIR_MACHINE, RIGHT, WRONG_MACHINE, all_operands, longer, odd_values,
    outline_lots, outline_machine, plain_bad, plain_right, plain_suits, shorter, with_digit,
    wrong_integers,
)

ONES = tuple((scheme, look) for scheme, look in RIGHT if look[2] == "one")


def plain_share(machine, n):
    """The share by counting all operands of the width."""
    many = sum(1 for _ in all_operands(machine[0], "one", n))
    found = Fraction(len(plain_bad(machine, n)), many)
    return (found.numerator, found.denominator)


def with_a_wrong_digit(chosen, scheme, look):
    """A right machine with, by chance, a digit just beside those that suit its cell."""
    machine = outline_machine(scheme, look)
    i = chosen.randrange(2 ** look[1])
    row = outline_lots(scheme, look)[i]
    y = chosen.choice(sorted(row))
    wrong = [q for q in (row[y][0] - 1, row[y][-1] + 1) if abs(q) <= scheme[1]]
    return with_digit(machine, i, y, chosen.choice(wrong))


class WidthsTest(unittest.TestCase):
    def check(self, machine, widths):
        """Compare the bad operands of some widths, from 1 on, with all operands; give the least width."""
        first = None
        for n in widths:
            expected = plain_bad(machine, n)
            self.assertEqual(bad_operands(machine, n), expected, (machine, n))
            self.assertEqual(share(machine, n), plain_share(machine, n))
            if expected and first is None:
                first = n
        if first is not None:
            self.assertEqual(least_width(machine), first)
        return first

    def test_examples(self):
        self.assertEqual([least_width(ONE_MACHINE), least_width(WRONG_MACHINE)], [None, 2])
        self.assertEqual(bad_operands(WRONG_MACHINE, 1), ())
        self.assertEqual(bad_operands(WRONG_MACHINE, 2), ((4, 3), (5, 3)))
        self.assertEqual([share(WRONG_MACHINE, 2), share(ONE_MACHINE, 3)], [(1, 24), (0, 1)])

    def test_right_machines(self):
        for scheme, look in ONES:
            machine = outline_machine(scheme, look)
            for right in (machine, longer(machine, 0), longer(machine, scheme[1])):
                self.assertIs(least_width(right), None)
                for n in (1, 2, 3, 7):
                    self.assertEqual(bad_operands(right, n), ())
                    self.assertEqual(share(right, n), (0, 1))

    def test_all_digits_changed_in_a_small_table(self):
        firsts = set()
        for y in range(-4, 4):
            for digit in (-1, 0, 1):
                machine = with_digit(ONE_MACHINE, 0, y, digit)
                first = self.check(machine, range(1, 6))
                self.assertEqual(first is None, plain_right(machine))
                firsts.add(first)
        self.assertTrue({None, 1, 2} <= firsts)

    def test_one_digit_changed(self):
        chosen = Random(7)
        firsts = {}
        for scheme, look in ONES:
            for _ in range(25):
                changed = with_a_wrong_digit(chosen, scheme, look)
                first = self.check(changed, (1, 2, 3, 4))
                if first is None:
                    # Beyond the widths that are counted out, the least width is just that.
                    first = least_width(changed)
                    self.assertGreater(first, 4)
                    self.assertEqual(bad_operands(changed, first - 1), ())
                    self.assertNotEqual(bad_operands(changed, first), ())
                firsts[first] = firsts.get(first, 0) + 1
        self.assertGreater(len(firsts), 4)

    def test_great_widths(self):
        chosen = Random(13)
        for scheme, look in ONES:
            for _ in range(200):
                changed = with_a_wrong_digit(chosen, scheme, look)
                first = least_width(changed)
                if first in (5, 6, 7):
                    self.assertEqual(plain_bad(changed, first - 1), ())
                    self.assertEqual(self.check(changed, (first,)), first)
                    break

    def test_rows_that_are_too_short(self):
        for scheme, look in ONES:
            machine = outline_machine(scheme, look)
            for i in (0, 2 ** look[1] - 1):
                for left, right in ((1, 0), (0, 1), (2, 2)):
                    short = shorter(machine, i, left, right)
                    first = self.check(short, (1, 2, 3, 4))
                    self.assertIsNotNone(least_width(short))
                    if first is None:
                        self.assertGreater(least_width(short), 4)

    def test_rows_without_reached_cells(self):
        for lowest in (-2100, 2100, 8):
            machine = ((1, 1), (0, 0, "one"), ((lowest, (0,)),))
            self.assertEqual(self.check(machine, (1, 2, 3)), 1)
            self.assertEqual(share(machine, 7), (1, 1))
        machine = ((3, 7), (1, 1, "one"), ((-5, (0,)), (3, (1, 2))))
        self.assertEqual(self.check(machine, (1, 2, 3)), 1)

    def test_bad_operands_of_all_greater_widths(self):
        for digit in (-1, 0):
            machine = with_digit(ONE_MACHINE, 0, 1, digit)
            first = least_width(machine)
            before = bad_operands(machine, first)
            for n in range(first + 1, 8):
                after = bad_operands(machine, n)
                # The same operands with all integers doubled have the same cell.
                self.assertTrue({(2 * d, 2 * x) for d, x in before} <= set(after))
                before = after

    def test_widths_smaller_than_what_is_looked_at(self):
        for (k, a), look in (((3, 6), (1, 4, "one")), ((2, 2), (4, 2, "one")), ((3, 7), (2, 4, "one"))):
            machine = ((k, a), look, ((-40, (0,) * 30 + (1,) * 50),) * 2 ** look[1])
            self.check(machine, (1, 2, 3))

    def test_digits_are_bad_only_where_they_do_not_suit(self):
        machine = with_digit(ONE_MACHINE, 0, 1, 0)
        for n in (2, 3, 5):
            bad = bad_operands(machine, n)
            for d, x in bad:
                self.assertFalse(plain_suits((1, 1), "one", (x, d, n), 0))
            self.assertEqual(bad, tuple(sorted(bad)))
        self.assertEqual(bad_operands(machine, 3), plain_bad(machine, 3))

    def test_shares_are_fractions(self):
        for n in range(1, 8):
            top, bottom = share(WRONG_MACHINE, n)
            many = sum(2 * d + 1 for d in range(2 ** n, 2 ** (n + 1)))
            self.assertEqual(Fraction(top, bottom), Fraction(len(bad_operands(WRONG_MACHINE, n)), many))
            self.assertEqual((Fraction(top, bottom).numerator, Fraction(top, bottom).denominator), (top, bottom))
            self.assertEqual([type(top), type(bottom)], [int, int])

    def test_wrong_machines(self):
        wrong = odd_values() + wrong_integers() + [
            PAIR_MACHINE, ONE_MACHINE[:2], list(ONE_MACHINE), ((1, 1), (0, 1, "one"), ONE_MACHINE[2]),
            ((1, 1), (0, 0, "one"), ((-4, (2,)),)), outline_machine((2, 3), (1, 2, "pair")),
        ]
        for machine in wrong:
            for call in (
                lambda: least_width(machine), lambda: bad_operands(machine, 2),
                lambda: share(machine, 2), lambda: bad_operands(machine, 0), lambda: share(machine, None),
            ):
                with self.assertRaises(BadMachine) as caught:
                    call()
                self.assertIs(caught.exception.thing, machine)

    def test_wrong_widths(self):
        for n in odd_values() + wrong_integers() + [0, -1, -10 ** 39]:
            for machine in (ONE_MACHINE, WRONG_MACHINE):
                for function in (bad_operands, share):
                    with self.assertRaises(BadNumber) as caught:
                        function(machine, n)
                    self.assertIs(caught.exception.thing, n)


if __name__ == "__main__":
    unittest.main()
