"""What the document promises over the whole program [0.1], [0.3]: its parts, one after the other."""

import os
import unittest
from fractions import Fraction
from random import Random

from quotientcells.cells import suitable
from quotientcells.convert import registers
from quotientcells.digits import value
from quotientcells.judge import finished, is_right, judge_machine, machine_holds
from quotientcells.logic import judge_logic, logic_holds, make_logic, output
from quotientcells.machines import estimate, is_machine, is_operands, selected
from quotientcells.numbers import quotient, to_bits
from quotientcells.rounding import divide, exact, rounded
from quotientcells.runs import is_in_bounds, remainders, run
from quotientcells.tables import choices, judge_look, least_looks, look_holds, make_machine, many_machines
from quotientcells.texts import read, written
from quotientcells.widths import bad_operands, least_width, share
from samples import LOOKS, MODES, SCHEMES, plain_errs, shorter, with_digit, words_of

PACKAGE = os.path.join(os.path.dirname(os.path.abspath(__file__)), "..", "quotientcells")

MODULES = (
    "cells", "convert", "digits", "errors", "judge", "logic", "machines", "numbers", "rounding", "runs",
    "tables", "texts", "widths",
)


def some_operands(chosen, scheme, kind, n):
    """Operands of a width, by chance."""
    k, a = scheme
    d = chosen.randrange(2 ** n, 2 ** (n + 1))
    most = a * d // (2 ** k - 1)
    x = chosen.choice((chosen.randint(-most, most), most, -most, 0))
    c = chosen.randint(-2 ** n, 2 ** n)
    return (x if kind == "one" else (x - c, c), d, n)


class WholeTest(unittest.TestCase):
    def test_all_files_of_the_interface(self):
        names = [name for name in os.listdir(PACKAGE) if name.endswith(".py")]
        for module in MODULES:
            self.assertIn(module + ".py", names)

    def test_a_table_from_its_making_to_its_rounded_quotients(self):
        chosen = Random(20)
        made = 0
        for scheme in SCHEMES:
            for look in LOOKS + ((2, 3, "one"), (3, 3, "pair"), (1, 4, "one"), (2, 3, "pair")):
                machine = make_machine(scheme, look)
                certificate = judge_look(scheme, look)
                self.assertIs(look_holds(scheme, look, certificate), True)
                self.assertEqual(certificate[0], "cell" if machine is None else "machine")
                self.assertIs(many_machines(scheme, look) == 0, machine is None)
                if machine is None:
                    self.hopeless(scheme, look, certificate)
                    continue
                made += 1
                self.assertIs(is_right(machine), True)
                self.assertEqual(judge_machine(machine), ("right",))
                again = read(written(machine))
                self.assertEqual(again, machine)
                self.logic_gives_the_table(again)
                for n in (1, 4, 40):
                    self.divides_rightly(again, some_operands(chosen, scheme, look[2], n))
        self.assertGreater(made, 20)

    def hopeless(self, scheme, look, certificate):
        """For a look without a table: no digit suits the cell, each has its operands."""
        _, cell, lot = certificate
        self.assertEqual(suitable(scheme, look, cell), ())
        self.assertIn((), choices(scheme, look)[cell[0]][1])
        for operands in lot:
            self.assertIs(is_operands(scheme, look[2], operands), True)

    def logic_gives_the_table(self, machine):
        """The logic of a machine gives the digit of the table for every cell."""
        if sum(len(string) for _, string in machine[2]) > 200:
            return
        logic = make_logic(machine)
        self.assertEqual(judge_logic(machine, logic), ("fits",))
        self.assertIs(logic_holds(machine, logic, ("fits",)), True)
        for i, (lowest, string) in enumerate(machine[2]):
            for y, digit in enumerate(string, lowest):
                self.assertEqual(output(machine, logic, (i, y)), digit)

    def divides_rightly(self, machine, operands):
        """A run of a right machine: in bounds, exact, rounded and converted."""
        scheme, look, _ = machine
        dividend, d, n = operands
        x = sum(words_of(look[2], dividend))
        r = 2 ** scheme[0]
        m = 12
        string, last = run(machine, operands, m)
        passed = remainders(machine, operands, m)
        self.assertEqual((len(string), len(passed), passed[-1]), (m, m + 1, last))
        for digit, remainder in zip(string, passed):
            self.assertEqual(selected(machine, remainder, d, n), digit)
            cell = estimate(machine, remainder, d, n)
            self.assertIn(digit, suitable(scheme, look, cell))
            self.assertIs(is_in_bounds(scheme, sum(words_of(look[2], remainder)), d), True)
        self.assertEqual(x * r ** m, value(scheme, string) * d + sum(words_of(look[2], last)))
        self.assertEqual(finished(machine, operands, m), divmod(x * r ** m, d))
        for at, v in enumerate((value(scheme, string), value(scheme, string) - 1)):
            places = registers(scheme, string)[at]
            self.assertEqual(sum(digit * r ** j for j, digit in enumerate(reversed(places))), v % r ** m)
        ratio = Fraction(x * r ** m, d)
        for mode in MODES:
            found = divide(machine, operands, m, mode)
            self.assertEqual(found, exact(scheme, look[2], operands, m, mode))
            self.assertEqual(found, rounded((ratio.numerator, ratio.denominator), mode))

    def test_a_broken_table(self):
        chosen = Random(21)
        for scheme, look in (((1, 1), (0, 0, "one")), ((2, 3), (0, 1, "one")), ((2, 2), (2, 3, "one"))):
            machine = make_machine(scheme, look)
            for _ in range(10):
                i = chosen.randrange(2 ** look[1])
                lowest, string = machine[2][i]
                y = lowest + chosen.randrange(len(string))
                wrong = [q for q in range(-scheme[1], scheme[1] + 1) if q not in suitable(scheme, look, (i, y))]
                for broken in (with_digit(machine, i, y, chosen.choice(wrong)), shorter(machine, i, 0, 1)):
                    self.wrong_throughout(broken)

    def wrong_throughout(self, broken):
        """All parts find a machine of the kind "one" wrong, and its logic repeats the fault."""
        self.assertIs(is_machine(broken), True)
        self.assertIs(is_right(broken), False)
        certificate = judge_machine(broken)
        self.assertIs(machine_holds(broken, certificate), True)
        _, operands, m = certificate
        self.assertTrue(plain_errs(broken, operands, m))
        end = finished(broken, operands, m)
        if end is None:
            self.assertIs(divide(broken, operands, m, "down"), None)
        else:
            down = exact(broken[0], "one", operands, m, "down")
            self.assertNotEqual(divide(broken, operands, m, "down"), down)
        self.assertIs(look_holds(*broken[:2], ("machine", broken)), False)
        self.assertEqual(read(written(broken)), broken)
        self.logic_gives_the_table(broken)
        n = least_width(broken)
        if n <= 7:
            d, x = bad_operands(broken, n)[0]
            self.assertIs(is_operands(broken[0], "one", (x, d, n)), True)
            self.assertGreater(share(broken, n)[0], 0)
            self.assertTrue(any(plain_errs(broken, (x, d, n), steps) for steps in range(1, 60)))

    def test_least_looks_have_tables_and_those_below_have_none(self):
        for scheme in SCHEMES:
            for t, s in least_looks(scheme, "one", 4):
                machine = make_machine(scheme, (t, s, "one"))
                self.assertIs(is_right(read(written(machine))), True)
                self.assertIs(least_width(machine), None)
                if t + s <= 5:
                    self.assertEqual(quotient(machine, (3, 0), (5, 0), 9, "even"), to_bits((3, 5), 9, "even"))
                if t > 0:
                    self.assertIs(make_machine(scheme, (t - 1, s, "one")), None)


if __name__ == "__main__":
    unittest.main()
