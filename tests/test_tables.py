import unittest
from functools import lru_cache
from math import prod

from quotientcells.errors import BadLook, BadNumber, BadScheme
from quotientcells.judge import is_right
from quotientcells.tables import (
    choices, judge_look, least_looks, look_holds, make_machine, many_machines,
)
from samples import (
    LOOKS, ONE_MACHINE, PAIR_MACHINE, SCHEMES, odd_values, outline_lots, outline_machine,
    plain_bounds, plain_cell, plain_right, plain_suits, with_digit, words_of, wrong_integers,
)

ONE, PAIR = (0, 0, "one"), (0, 0, "pair")

# Looks at the ends of the limits.
GREAT_LOOKS = ((4, 2, "one"), (2, 4, "pair"), (0, 4, "one"), (4, 0, "pair"), (3, 3, "one"))

# Some cells without a suitable digit: scheme, look, cell.
HOPELESS = (((2, 2), ONE, (0, -3)), ((2, 2), (1, 1, "pair"), (0, -6)), ((3, 4), (2, 2, "one"), (0, -14)))

WRONG_LOOKS = [(0, 0), (0, 0, "two"), [0, 0, "one"], (True, 0, "one"), (0, False, "one"), (-1, 0, "one")]


@lru_cache(maxsize=None)
def plain_possible(scheme, look):
    """Whether each reached cell has a digit that suits it."""
    return all(lot for row in outline_lots(scheme, look) for lot in row.values())


class ChoicesTest(unittest.TestCase):
    def test_examples(self):
        lots = ((-1,), (-1,), (-1,), (-1,), (0,), (1,), (1,), (1,), (1,))
        self.assertEqual(choices((1, 1), PAIR), ((-5, lots),))
        lots = ((-1,), (-1,), (-1,), (-1, 0), (0, 1), (1,), (1,), (1,))
        self.assertEqual(choices((1, 1), ONE), ((-4, lots),))

    def test_against_outlines(self):
        for scheme in SCHEMES:
            for look in LOOKS:
                rows = outline_lots(scheme, look)
                self.assertEqual(
                    choices(scheme, look), tuple((min(row), tuple(row.values())) for row in rows)
                )

    def test_great_looks(self):
        for scheme in ((1, 1), (2, 2), (3, 7)):
            for look in GREAT_LOOKS:
                rows = outline_lots(scheme, look)
                expected = tuple((min(row), tuple(row.values())) for row in rows)
                self.assertEqual(choices(scheme, look), expected)

    def test_kinds_of_the_results(self):
        found = choices((2, 3), (1, 1, "one"))
        self.assertEqual([type(found), len(found)], [tuple, 2])
        for row in found:
            self.assertEqual([type(row), len(row), type(row[0]), type(row[1])], [tuple, 2, int, tuple])
            self.assertEqual({type(lot) for lot in row[1]}, {tuple})


class MakeMachineTest(unittest.TestCase):
    def test_examples(self):
        self.assertEqual(make_machine((1, 1), PAIR), PAIR_MACHINE)
        self.assertIs(make_machine((2, 2), ONE), None)
        self.assertIs(is_right(make_machine((2, 3), (3, 3, "one"))), True)

    def test_tight_and_right_or_none(self):
        for scheme in SCHEMES:
            for look in LOOKS + GREAT_LOOKS[:2]:
                found = make_machine(scheme, look)
                if not plain_possible(scheme, look):
                    self.assertIs(found, None)
                    continue
                self.assertEqual(found[:2], (scheme, look))
                self.assertIs(plain_right(found), True)
                for (lowest, string), row in zip(found[2], outline_lots(scheme, look)):
                    self.assertEqual((lowest, len(string)), (min(row), len(row)))


class ManyMachinesTest(unittest.TestCase):
    def test_examples(self):
        self.assertEqual([many_machines((1, 1), ONE), many_machines((1, 1), PAIR)], [4, 1])
        self.assertEqual(many_machines((2, 2), ONE), 0)

    def test_products(self):
        for scheme in SCHEMES:
            for look in LOOKS + GREAT_LOOKS[:2]:
                lots = [lot for row in outline_lots(scheme, look) for lot in row.values()]
                self.assertEqual(many_machines(scheme, look), prod(len(lot) for lot in lots))

    def test_none_exactly_if_there_is_no_machine(self):
        for scheme in SCHEMES:
            for look in LOOKS:
                self.assertIs(many_machines(scheme, look) == 0, make_machine(scheme, look) is None)


class JudgeLookTest(unittest.TestCase):
    def check(self, scheme, look):
        """Compare the certificate for a scheme and a look with [7.2], step by step."""
        found = judge_look(scheme, look)
        self.assertIs(type(found), tuple)
        self.assertIs(look_holds(scheme, look, found), True)
        if plain_possible(scheme, look):
            self.assertEqual((len(found), found[0]), (2, "machine"))
            self.assertEqual(found[1][:2], (scheme, look))
            self.assertIs(plain_right(found[1]), True)
            return
        self.assertEqual((len(found), found[0], type(found[2])), (3, "cell", tuple))
        self.assertEqual(len(found[2]), 2 * scheme[1] + 1)
        for digit, (dividend, d, n) in zip(range(-scheme[1], scheme[1] + 1), found[2]):
            words = words_of(look[2], dividend)
            self.assertTrue(1 <= n <= 40 and 2 ** n <= d < 2 ** (n + 1))
            self.assertTrue(all(type(word) is int and abs(word) <= 10 ** 40 for word in words))
            self.assertTrue(plain_bounds(scheme, sum(words), d))
            self.assertEqual(plain_cell(scheme, look, dividend, d, n), found[1])
            self.assertFalse(plain_suits(scheme, look[2], (dividend, d, n), digit))

    def test_examples(self):
        self.assertEqual(judge_look((2, 2), ONE)[0], "cell")

    def test_all_schemes_and_looks(self):
        for scheme in SCHEMES:
            for look in LOOKS:
                self.check(scheme, look)

    def test_great_looks(self):
        for scheme in ((1, 1), (2, 2), (3, 7)):
            for look in GREAT_LOOKS:
                self.check(scheme, look)


class LookHoldsTest(unittest.TestCase):
    def test_machines_of_others(self):
        # Right machines need not be tight, and the machine must have this scheme and this look.
        for lowest, string, right in (
            (-4, (-1, -1, -1, 0, 0, 1, 1, 1), True), (-4, (-1, -1, -1, -1, 1, 1, 1, 1), True),
            (-6, (0, 0, -1, -1, -1, 0, 1, 1, 1, 1, -1), True), (-4, (-1, -1, -1, 0, 0, 0, 1, 1), False),
            (-3, (-1, -1, 0, 0, 1, 1, 1), False), (-4, (-1, -1, -1, 0, 0, 1, 1), False),
        ):
            thing = ("machine", ((1, 1), ONE, ((lowest, string),)))
            self.assertIs(look_holds((1, 1), ONE, thing), right)
            for scheme, look in (((1, 1), PAIR), ((1, 1), (1, 0, "one")), ((2, 2), ONE), ((2, 3), ONE)):
                self.assertIs(look_holds(scheme, look, thing), False)

    def test_all_machines_with_one_digit_changed(self):
        for scheme, look in (((2, 3), (0, 1, "one")), ((1, 1), (1, 1, "pair"))):
            machine = make_machine(scheme, look)
            for i, row in enumerate(outline_lots(scheme, look)):
                for y, lot in row.items():
                    for digit in range(-scheme[1], scheme[1] + 1):
                        thing = ("machine", with_digit(machine, i, y, digit))
                        self.assertIs(look_holds(scheme, look, thing), digit in lot)

    def test_right_machines_of_other_looks(self):
        machines = [make_machine(scheme, look) for scheme in SCHEMES for look in LOOKS]
        machines = [machine for machine in machines if machine is not None]
        for machine in machines[::3]:
            for other in machines[::3]:
                right = machine[:2] == other[:2]
                self.assertIs(look_holds(other[0], other[1], ("machine", machine)), right)

    def test_cells_of_others(self):
        scheme, look = (2, 2), ONE
        for x, n, right in ((-9, 4, True), (-8, 4, False), (-10, 4, True), (-11, 4, False)):
            # The first operands are against the digit -2, the others against the digits from -1 to 2.
            lot = ((x, 31, n),) + ((-3, 7, 2),) * 4
            self.assertIs(look_holds(scheme, look, ("cell", (0, -3), lot)), right)
        good = judge_look(scheme, look)
        self.assertIs(look_holds(scheme, look, good), True)
        for y in range(-12, 12):
            self.assertIs(look_holds(scheme, look, ("cell", (0, y), good[2])), y == good[1][1])

    def test_lots(self):
        for scheme, look, _ in HOPELESS:
            _, cell, lot = judge_look(scheme, look)
            wrong = [
                lot[:-1], lot[1:], lot + lot[:1], (), list(lot), lot[0], lot[:1] * len(lot), None, "lot",
                tuple(list(one) for one in lot), lot[::-1], (None,) * len(lot), {0: lot}, (lot,),
                lot[:-1] + (None,), ((0, 4, 2),) * len(lot), lot[:1] + ((0, 2, 1),) + lot[2:],
            ]
            self.assertIs(look_holds(scheme, look, ("cell", cell, lot)), True)
            for thing in wrong + odd_values() + wrong_integers():
                expected = self.plain_lot(scheme, look, cell, thing)
                self.assertIs(look_holds(scheme, look, ("cell", cell, thing)), expected, thing)

    def plain_lot(self, scheme, look, cell, lot):
        """Whether operands of the right form are a lot of [7.2]."""
        digits = range(-scheme[1], scheme[1] + 1)
        if type(lot) is not tuple or len(lot) != len(digits):
            return False
        if not all(type(one) is tuple and len(one) == 3 for one in lot):
            return False
        if not all((type(one[0]) is tuple) == (look[2] == "pair") for one in lot):
            return False
        return all(
            plain_cell(scheme, look, *one) == cell and not plain_suits(scheme, look[2], one, digit)
            for digit, one in zip(digits, lot)
        )

    def test_the_same_operands_twice(self):
        found = False
        for scheme, look, _ in HOPELESS:
            lot = judge_look(scheme, look)[2]
            found = found or len(set(lot)) < len(lot)
        self.assertIs(found, True)

    def test_cells_with_a_suitable_digit(self):
        # Operands against all digits but one, and the same ones again for that digit.
        lot = ((1, 4, 2), (3, 5, 2), (3, 5, 2))
        self.assertIs(look_holds((1, 1), ONE, ("cell", (0, 0), lot)), False)
        for y in range(-5, 5):
            for one in ((1, 4, 2), (-1, 4, 2), (3, 5, 2), (-3, 5, 2), (0, 4, 2), (5, 5, 2)):
                self.assertIs(look_holds((1, 1), ONE, ("cell", (0, y), (one,) * 3)), False)

    def test_things_that_are_no_certificates(self):
        machine = ONE_MACHINE
        cell, lot = judge_look((2, 2), ONE)[1:]
        wrong = odd_values() + wrong_integers() + [
            "machine", ("machine",), ("machine", None), ("machine", machine, machine), ["machine", machine],
            ("Machine", machine), ("machine", list(machine)), ("machine", machine[:2]), machine,
            ("machine", ((1, 1), (False, 0, "one"), machine[2])), (None, machine), ("right",),
            ("machine", ((True, True), ONE, machine[2])), ("machine", ((1, 1), [0, 0, "one"], machine[2])),
            ("machine", ((1, 1), ONE, list(machine[2]))), {"machine": machine}, ("cell", machine),
            ("machine", ((1, 1), ONE, ((-4, [-1, -1, -1, 0, 0, 1, 1, 1]),))),
            ("machine", ((1, 1), ONE, ((-4, (-1, -1, -1, False, 0, True, 1, 1)),))),
            ("machine", ((1, 1), ONE, machine[2] * 2)), ("machine", ((1, 1), ONE, ())),
            ("machine", ((1, 1), (10 ** 39, 0, "one"), machine[2])), ("cell", (0, 0), ()),
            ("cell",), ("cell", cell), ("cell", lot), ("cell", lot, cell), ("cell", cell, lot, lot),
            ["cell", cell, lot], ("Cell", cell, lot), ("cell", list(cell), lot), ("cell", cell[0], lot),
            ("cell", (False, -3), lot), ("cell", (1, -3), lot), ("cell", (-1, -3), lot),
            ("cell", (0, -3, 0), lot), ("cell", (0, None), lot), ("cell", (10 ** 39, -3), lot),
            ("cell", None, lot), ("machine", cell, lot), ("cell", ("0", -3), lot), ("cell", (0, 10 ** 39), lot),
            ("cell", (0, "-3"), lot), ("cell", (0, True), lot), ("cell", (0, [-3]), lot),
        ]
        for thing in wrong:
            for scheme in ((1, 1), (2, 2)):
                self.assertIs(look_holds(scheme, ONE, thing), False, thing)
        self.assertIs(look_holds((1, 1), ONE, ("machine", machine)), True)
        self.assertIs(look_holds((2, 2), ONE, ("cell", cell, lot)), True)

    def test_exactly_one_kind_of_certificate(self):
        for scheme in SCHEMES:
            for look in LOOKS:
                found = judge_look(scheme, look)
                machine = ("machine", outline_machine(scheme, look))
                self.assertIs(look_holds(scheme, look, machine), found[0] == "machine")


class LeastLooksTest(unittest.TestCase):
    def plain_least(self, scheme, kind, most):
        """The definition of [7.3], look by look."""
        found = []
        for t in range(most + 1):
            for s in range(most + 1):
                if t + s <= 6 and plain_possible(scheme, (t, s, kind)):
                    less_t = t > 0 and plain_possible(scheme, (t - 1, s, kind))
                    less_s = s > 0 and plain_possible(scheme, (t, s - 1, kind))
                    if not less_t and not less_s:
                        found.append((t, s))
        return tuple(found)

    def test_examples(self):
        self.assertEqual(least_looks((1, 1), "one", 2), ((0, 0),))
        self.assertEqual(least_looks((1, 1), "pair", 2), ((0, 0),))

    def test_against_outlines(self):
        for scheme, kind, most in (
            ((1, 1), "one", 4), ((1, 1), "pair", 4), ((2, 2), "one", 4), ((2, 2), "pair", 3),
            ((2, 3), "one", 4), ((2, 3), "pair", 4), ((3, 4), "one", 2), ((3, 7), "pair", 3),
            ((3, 6), "pair", 2),
        ):
            for bound in range(most + 1):
                expected = self.plain_least(scheme, kind, bound)
                self.assertEqual(least_looks(scheme, kind, bound), expected)

    def test_against_judged_looks(self):
        for scheme in SCHEMES:
            for kind in ("one", "pair"):
                possible = {
                    (t, s): make_machine(scheme, (t, s, kind)) is not None
                    for t in range(5) for s in range(5) if t + s <= 6
                }
                expected = tuple(
                    (t, s) for (t, s), fine in sorted(possible.items())
                    if fine and not possible.get((t - 1, s)) and not possible.get((t, s - 1))
                )
                self.assertEqual(least_looks(scheme, kind, 4), expected)

    def test_greatest_bounds(self):
        self.assertEqual(least_looks((2, 2), "one", 4), ((2, 3),))
        self.assertEqual(least_looks((2, 2), "one", 2), ())
        self.assertEqual(least_looks((2, 2), "pair", 4), ((3, 3),))
        self.assertEqual(least_looks((3, 7), "one", 4), ((1, 3),))
        self.assertEqual(least_looks((3, 4), "one", 4), ())

    def test_those_beside_the_least_ones(self):
        for scheme in SCHEMES:
            for kind in ("one", "pair"):
                for t, s in least_looks(scheme, kind, 4):
                    self.assertEqual(judge_look(scheme, (t, s, kind))[0], "machine")
                    for beside in ((t - 1, s), (t, s - 1)):
                        if min(beside) >= 0:
                            self.assertEqual(judge_look(scheme, beside + (kind,))[0], "cell")
                    for greater in ((t + 1, s), (t, s + 1)):
                        self.assertEqual(judge_look(scheme, greater + (kind,))[0], "machine")

    def test_wrong_arguments(self):
        for scheme in odd_values() + wrong_integers() + [(2, 1), [1, 1]]:
            for kind, most in (("one", 2), (None, 2), ("one", None), (None, None)):
                with self.assertRaises(BadScheme) as caught:
                    least_looks(scheme, kind, most)
                self.assertIs(caught.exception.thing, scheme)
        for kind in odd_values() + wrong_integers() + ["two", "ones", ("one",), ["one"]]:
            for most in (2, -1, None):
                with self.assertRaises(BadNumber) as caught:
                    least_looks((1, 1), kind, most)
                self.assertIs(caught.exception.thing, kind)
        for most in odd_values() + wrong_integers() + [-1, -10 ** 39]:
            with self.assertRaises(BadNumber) as caught:
                least_looks((1, 1), "one", most)
            self.assertIs(caught.exception.thing, most)


class WrongArgumentsTest(unittest.TestCase):
    def calls(self, scheme, look):
        return [
            lambda: choices(scheme, look), lambda: make_machine(scheme, look),
            lambda: many_machines(scheme, look), lambda: judge_look(scheme, look),
            lambda: look_holds(scheme, look, ("machine", ONE_MACHINE)),
            lambda: look_holds(scheme, look, None),
        ]

    def expect(self, error, thing, call):
        with self.assertRaises(error) as caught:
            call()
        self.assertIs(caught.exception.thing, thing)

    def test_wrong_schemes(self):
        for scheme in odd_values() + wrong_integers() + [(2, 1), (1, 2), [1, 1]]:
            for look in (ONE, None, (0, 0)):
                for call in self.calls(scheme, look):
                    self.expect(BadScheme, scheme, call)

    def test_wrong_looks(self):
        for look in odd_values() + wrong_integers() + WRONG_LOOKS:
            for call in self.calls((1, 1), look):
                self.expect(BadLook, look, call)


if __name__ == "__main__":
    unittest.main()
