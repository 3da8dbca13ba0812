import unittest
from random import Random

from quotientcells.errors import BadMachine, BadNumber, BadOperands, BadScheme
from quotientcells.machines import estimate, is_look, is_machine, is_operands, selected
from samples import (
    LOOKS, ONE_MACHINE, PAIR_MACHINE, SCHEMES, odd_values, outline_machine, plain_bounds,
    plain_cell, wrong_integers,
)


def machine_of(scheme, look):
    """A machine in which each row has the digits -a, .., a from its own lowest on."""
    a = scheme[1]
    rows = [(i - a, tuple(range(-a, a + 1))) for i in range(2 ** look[1])]
    return (scheme, look, tuple(rows))


class LooksTest(unittest.TestCase):
    def test_looks(self):
        for t in range(7):
            for s in range(7):
                for kind in ("one", "pair"):
                    self.assertIs(is_look((t, s, kind)), True)

    def test_looks_beyond_the_limits(self):
        self.assertIs(is_look((10 ** 39, 0, "one")), True)
        self.assertIs(is_look((0, 10 ** 39, "pair")), True)

    def test_wrong_kinds(self):
        self.assertIs(is_look((0, 0, "two")), False)
        for kind in odd_values() + wrong_integers() + ["One", "PAIR", "one ", "on", "pairs", ["one"], 0]:
            self.assertIs(is_look((0, 0, kind)), False, kind)

    def test_wrong_numbers(self):
        for wrong in wrong_integers() + [-1, -10 ** 39]:
            self.assertIs(is_look((wrong, 0, "one")), False, wrong)
            self.assertIs(is_look((0, wrong, "pair")), False, wrong)

    def test_wrong_forms(self):
        wrong = [
            (), (0,), (0, 0), ("one",), (0, "one"), (0, 0, 0, "one"), (0, 0, "one", "one"),
            [0, 0, "one"], ((0, 0), "one"), ((0, 0, "one"),), ("one", 0, 0), "one", {0: "one"},
        ]
        for thing in odd_values() + wrong_integers() + wrong:
            self.assertIs(is_look(thing), False, thing)


class MachinesTest(unittest.TestCase):
    def test_example(self):
        self.assertIs(is_machine(ONE_MACHINE), True)

    def test_machines(self):
        for scheme in SCHEMES:
            for look in LOOKS:
                self.assertIs(is_machine(machine_of(scheme, look)), True)

    def test_rows_need_not_fit_the_reached_cells(self):
        for row in ((0, (1,)), (-2100, (0,) * 600), (2100, (0, -1)), (10 ** 39, (1,))):
            self.assertIs(is_machine(((1, 1), (0, 0, "one"), (row,))), True)

    def test_number_of_rows(self):
        row = (0, (0,))
        for s in range(5):
            for many in range(34):
                table = (row,) * many
                self.assertIs(is_machine(((1, 1), (0, s, "one"), table)), many == 2 ** s)

    def test_look_with_more_rows_than_can_be(self):
        for s in (40, 10 ** 39):
            for table in ((), ((0, (0,)),), ((0, (0,)),) * 2):
                self.assertIs(is_machine(((1, 1), (0, s, "one"), table)), False)

    def test_wrong_rows(self):
        for k, a in SCHEMES:
            wrong = [
                [0, (0,)], (0, [0]), (0,), ((0,),), (0, (0,), 0), (0, ()), ((0,), 0), (True, (0,)),
                (None, (0,)), ("0", (0,)), (0, (a + 1,)), (0, (0, -a - 1)), (0, (True,)),
                (0, (0, False)), (0, (None,)), (0, ((0,),)), (0, "0"), (0, 0), ((0, (0,)),), {0: (0,)},
            ]
            for row in odd_values() + wrong_integers() + wrong:
                self.assertIs(is_machine(((k, a), (0, 0, "one"), (row,))), False, row)
                table = ((0, (0,)), row)
                self.assertIs(is_machine(((k, a), (1, 1, "pair"), table)), False, row)

    def test_wrong_parts(self):
        scheme, look, table = ONE_MACHINE
        wrong = [
            (scheme, look), (scheme, look, table, table), [scheme, look, table],
            (scheme, look, list(table)), (scheme, list(look), table), (list(scheme), look, table),
            (look, scheme, table), (scheme, look, ()), (scheme, look, table[0]), (scheme, table, look),
            ((2, 1), look, table), (scheme, (0, 1, "one"), table), (scheme, (0, 0, "two"), table),
            (scheme, (True, 0, "one"), table), (scheme, (0, False, "one"), table),
            ((True, 1), look, table), (None, look, table), (scheme, None, table),
            (scheme, look, None), (scheme, look, {0: table[0]}), (scheme, look, "row"),
        ]
        for thing in odd_values() + wrong_integers() + wrong:
            self.assertIs(is_machine(thing), False, thing)


class OperandsTest(unittest.TestCase):
    def test_examples(self):
        self.assertIs(is_operands((1, 1), "one", (3, 5, 2)), True)
        self.assertIs(is_operands((1, 1), "one", (6, 5, 2)), False)
        self.assertIs(is_operands((2, 2), "one", (4, 5, 2)), False)
        self.assertIs(is_operands((1, 1), "pair", ((9, -6), 5, 2)), True)

    def test_all_small_triples(self):
        for scheme in SCHEMES:
            for n in range(-1, 5):
                for d in range(-3, 36):
                    for x in range(-40, 41):
                        good = n >= 1 and 2 ** n <= d < 2 ** (n + 1) and plain_bounds(scheme, x, d)
                        self.assertIs(is_operands(scheme, "one", (x, d, n)), good)
                        self.assertIs(is_operands(scheme, "pair", ((x + 7, -7), d, n)), good)

    def test_bounds_and_one_beyond(self):
        for k, a in SCHEMES:
            for n in (1, 2, 3, 17, 40):
                for d in (2 ** n, 2 ** n + 1, 2 ** (n + 1) - 1):
                    most = a * d // (2 ** k - 1)
                    for sign in (1, -1):
                        for c in (0, 1, -most, 10 ** 39):
                            for x, good in ((most, True), (most + 1, False)):
                                pair = (sign * x - c, c)
                                self.assertIs(is_operands((k, a), "one", (sign * x, d, n)), good)
                                self.assertIs(is_operands((k, a), "pair", (pair, d, n)), good)

    def test_least_and_greatest_divisor(self):
        for n in (1, 2, 5, 40):
            for d, good in (
                (2 ** n - 1, False), (2 ** n, True), (2 ** (n + 1) - 1, True), (2 ** (n + 1), False),
                (-2 ** n, False), (0, False),
            ):
                self.assertIs(is_operands((2, 3), "one", (0, d, n)), good)
                self.assertIs(is_operands((2, 3), "pair", ((5, -5), d, n)), good)

    def test_widths_from_one_on(self):
        self.assertIs(is_operands((1, 1), "one", (0, 1, 0)), False)
        self.assertIs(is_operands((1, 1), "one", (0, 2, 1)), True)
        for n in (-1, -10 ** 39, 10 ** 39):
            self.assertIs(is_operands((1, 1), "one", (0, 1, n)), False)

    def test_words_that_cancel(self):
        for great in (1, 6, 10 ** 39):
            self.assertIs(is_operands((2, 2), "pair", ((great, -great), 5, 2)), True)
            self.assertIs(is_operands((2, 2), "pair", ((3 - great, great), 5, 2)), True)
            self.assertIs(is_operands((2, 2), "pair", ((4 - great, great), 5, 2)), False)

    def test_kinds_are_not_exchanged(self):
        self.assertIs(is_operands((1, 1), "pair", (3, 5, 2)), False)
        self.assertIs(is_operands((1, 1), "one", ((3, 0), 5, 2)), False)

    def test_wrong_things(self):
        for wrong in odd_values() + wrong_integers() + [[1], "1"]:
            self.assertIs(is_operands((1, 1), "one", wrong), False)
            self.assertIs(is_operands((1, 1), "pair", wrong), False)
            self.assertIs(is_operands((1, 1), "one", (wrong, 5, 2)), False)
            if wrong != (3, 0):
                self.assertIs(is_operands((1, 1), "pair", (wrong, 5, 2)), False)
            for kind, x in (("one", 0), ("pair", (0, 0))):
                self.assertIs(is_operands((1, 1), kind, (x, wrong, 2)), False)
                self.assertIs(is_operands((1, 1), kind, (x, 5, wrong)), False)
        for wrong in wrong_integers():
            self.assertIs(is_operands((1, 1), "pair", ((wrong, 0), 5, 2)), False)
            self.assertIs(is_operands((1, 1), "pair", ((0, wrong), 5, 2)), False)

    def test_bools_are_no_numbers(self):
        self.assertIs(is_operands((1, 1), "one", (True, 2, 1)), False)
        self.assertIs(is_operands((1, 1), "one", (0, 2, True)), False)
        self.assertIs(is_operands((1, 1), "pair", ((True, 0), 2, 1)), False)
        self.assertIs(is_operands((1, 1), "pair", ((0, False), 2, 1)), False)

    def test_wrong_forms(self):
        wrong = [
            (3, 5), (3, 5, 2, 2), [3, 5, 2], ((3, 5, 2),), ((3,), 5, 2), ([3, 0], 5, 2),
            ((3, 0, 0), 5, 2), ((3,), 5, 2), ((), 5, 2), ((3, 0), [5], 2), (((3, 0),), 5, 2),
        ]
        for thing in wrong:
            for kind in ("one", "pair"):
                self.assertIs(is_operands((1, 1), kind, thing), False, thing)

    def test_errors(self):
        for scheme in odd_values() + [(2, 1), [1, 1]]:
            for kind in ("one", "two", None):
                with self.assertRaises(BadScheme) as caught:
                    is_operands(scheme, kind, (0, 2, 1))
                self.assertIs(caught.exception.thing, scheme)
        for kind in odd_values() + wrong_integers() + ["two", "ONE", ["one"], ("pair",), 1]:
            for thing in ((0, 2, 1), None):
                with self.assertRaises(BadNumber) as caught:
                    is_operands((1, 1), kind, thing)
                self.assertIs(caught.exception.thing, kind)


class SelectingTest(unittest.TestCase):
    def test_examples(self):
        self.assertEqual(estimate(ONE_MACHINE, 3, 5, 2), (0, 1))
        self.assertEqual(selected(ONE_MACHINE, 3, 5, 2), 1)
        self.assertEqual(selected(ONE_MACHINE, -1, 5, 2), 0)
        self.assertIsNone(selected(ONE_MACHINE, 8, 5, 2))

    def test_small_widths(self):
        for scheme in ((1, 1), (2, 2), (3, 5)):
            for look in LOOKS:
                machine = machine_of(scheme, look)
                for n in (1, 2, 3):
                    for d in range(2 ** n, 2 ** (n + 1)):
                        for x in range(-9, 10):
                            w = x if look[2] == "one" else (2 * x, 3 - x)
                            self.assertEqual(
                                estimate(machine, w, d, n), plain_cell(scheme, look, w, d, n),
                            )

    def test_great_widths(self):
        chosen = Random(5)
        for scheme in SCHEMES:
            for look in LOOKS + ((4, 2, "one"), (2, 4, "pair"), (4, 2, "pair"), (2, 4, "one")):
                machine = machine_of(scheme, look)
                for n in (7, 24, 40):
                    for d in (2 ** n, chosen.randrange(2 ** n, 2 ** (n + 1)), 2 ** (n + 1) - 1):
                        p, c = [chosen.randrange(-2 ** (n + 2), 2 ** (n + 2)) for _ in range(2)]
                        w = p if look[2] == "one" else (p, c)
                        self.assertEqual(estimate(machine, w, d, n), plain_cell(scheme, look, w, d, n))

    def test_cell_of_the_divisor(self):
        machine = machine_of((1, 1), (0, 2, "one"))
        cells = [estimate(machine, 0, d, 3) for d in range(8, 16)]
        self.assertEqual(cells, [(0, 0), (0, 0), (1, 0), (1, 0), (2, 0), (2, 0), (3, 0), (3, 0)])
        self.assertEqual([estimate(machine, 0, d, 1) for d in (2, 3)], [(0, 0), (2, 0)])
        self.assertEqual(estimate(machine, 0, 2 ** 41 - 1, 40), (3, 0))

    def test_words_are_cut_off_one_by_one(self):
        # As one word 3 + 3 gives 2 * 6 / 4 = 3; each word by itself gives 1.
        self.assertEqual(estimate(PAIR_MACHINE, (3, 3), 5, 2), (0, 2))
        self.assertEqual(estimate(PAIR_MACHINE, (-3, -3), 5, 2), (0, -4))

    def test_words_that_cancel(self):
        for great in (1, 3, 5, 10 ** 40 - 1):
            self.assertEqual(estimate(PAIR_MACHINE, (great, -great), 5, 2), (0, -1))
        for great in (0, 2, 4, 10 ** 40):
            self.assertEqual(estimate(PAIR_MACHINE, (great, -great), 5, 2), (0, 0))

    def test_remainders_out_of_bounds(self):
        self.assertEqual(estimate(ONE_MACHINE, 10 ** 40, 2, 1), (0, 10 ** 40))
        self.assertEqual(estimate(ONE_MACHINE, -10 ** 40, 3, 1), (0, -10 ** 40))
        self.assertIsNone(selected(ONE_MACHINE, 10 ** 40, 2, 1))
        self.assertIsNone(selected(PAIR_MACHINE, (-10 ** 40, 0), 2, 1))

    def test_positions_of_a_row(self):
        for scheme in SCHEMES:
            a = scheme[1]
            # With r * w / 2 ** n = w for n = k the estimate is w itself.
            for lowest in (-7, 0, 3):
                digits = tuple(range(-a, a + 1))
                machine = (scheme, (0, 0, "one"), ((lowest, digits),))
                d = 2 ** scheme[0]
                found = [selected(machine, w, d, scheme[0]) for w in range(lowest - 2, lowest + 2 * a + 3)]
                self.assertEqual(found, [None, None, *digits, None, None])

    def test_each_divisor_has_its_row(self):
        table = ((-1, (0, 1)), (0, (1, 1)), (1, (-1,)), (-3, (0, 0, -1)))
        machine = ((1, 1), (0, 2, "one"), table)
        found = [[selected(machine, w, d, 2) for w in range(-4, 5)] for d in range(4, 8)]
        self.assertEqual(found, [
            [None, None, 0, 0, 1, 1, None, None, None],
            [None, None, None, None, 1, 1, 1, 1, None],
            [None, None, None, None, None, None, -1, -1, None],
            [0, 0, -1, -1, None, None, None, None, None],
        ])

    def test_tables_of_all_cells(self):
        for look in LOOKS:
            machine = outline_machine((2, 3), look)
            for n in (1, 4):
                for d in range(2 ** n, 2 ** (n + 1)):
                    for x in range(-d, d + 1):
                        w = x if look[2] == "one" else (x + 3, -3)
                        i, y = plain_cell((2, 3), look, w, d, n)
                        lowest, string = machine[2][i]
                        self.assertEqual(selected(machine, w, d, n), string[y - lowest])

    def test_wrong_remainders_divisors_and_widths(self):
        wrong_ones = wrong_integers() + [(3, 0), (3, 0, 0), [3, 0]]
        wrong_pairs = wrong_integers()[:-2] + [
            3, [3, 0], (3,), (3, 0, 0), (True, 0), (0, False), (None, 0), (3, "0"), ((3, 0),), "30",
        ]
        calls = [(ONE_MACHINE, wrong, 5, 2) for wrong in wrong_ones]
        calls += [(PAIR_MACHINE, wrong, 5, 2) for wrong in wrong_pairs]
        for machine, w in ((ONE_MACHINE, 3), (PAIR_MACHINE, (3, 0))):
            calls += [(machine, w, wrong, 2) for wrong in wrong_integers() + [0, -5, 3, 8, 10 ** 39]]
            calls += [(machine, w, 5, wrong) for wrong in wrong_integers() + [0, -2, 1, 3, 10 ** 39]]
            calls += [(machine, w, 1, 0), (machine, None, None, None), (machine, True, True, True)]
        for call in calls:
            for function in (estimate, selected):
                with self.assertRaises(BadOperands) as caught:
                    function(*call)
                self.assertEqual(caught.exception.thing, call[1:])
                for found, passed in zip(caught.exception.thing, call[1:]):
                    self.assertIs(found, passed)

    def test_machine_is_looked_at_first(self):
        wrong = odd_values() + [ONE_MACHINE[:2], list(ONE_MACHINE), (ONE_MACHINE,), ONE_MACHINE[2]]
        for machine in wrong:
            for rest in ((3, 5, 2), (None, 5, 2), (3, None, None)):
                for function in (estimate, selected):
                    with self.assertRaises(BadMachine) as caught:
                        function(machine, *rest)
                    self.assertIs(caught.exception.thing, machine)


if __name__ == "__main__":
    unittest.main()
