import unittest
from random import Random

from quotientcells.errors import BadCell, BadLogic, BadMachine
from quotientcells.logic import is_logic, judge_logic, logic_holds, make_logic, output
from samples import (
    LOOKS, ONE_MACHINE, PAIR_MACHINE, SCHEMES, odd_values, outline_machine, plain_fits,
    plain_output, wrong_integers,
)

# The logic of the document's example, for ONE_MACHINE.
GOOD = (3, (("10-", -1), ("110", -1), ("111", 0), ("000", 0), ("001", 1), ("01-", 1)))

# A machine with two rows whose s is 1, and a logic of it.
TWO_ROWS = ((2, 2), (0, 1, "one"), ((-2, (-2, -1, 0, 1)), (-1, (-1, 2, 2))))
TWO_LOGIC = (2, (("100", -2), ("11-", -1), ("000", 0), ("010", 1), ("001", 2), ("011", 2)))

WRONG_LOGICS = [
    (3,), (3, GOOD[1], 0), [3, GOOD[1]], (3, list(GOOD[1])), (True, ()), (0, ()), (-1, ()), ("3", ()),
    (None, GOOD[1]), (3, None), (3, "10-"), (2, GOOD[1]), (4, GOOD[1]), (3, (("10-",),)), (3, (("10-", -1, 0),)),
    (3, (["10-", -1],)), (3, (("10-", 2),)), (3, (("10-", True),)), (3, (("10-", False),)),
    (3, (("10-", None),)), (3, (("10-", "1"),)), (3, (("10", -1),)), (3, (("10--", -1),)), (3, (("", 0),)),
    (3, (("102", -1),)), (3, (("10x", -1),)), (3, (("10 ", -1),)), (3, (("10\n", -1),)), (3, ((101, -1),)),
    (3, ((("1", "0", "-"), -1),)), (3, ((["1", "0", "-"], -1),)), (3, GOOD[1] + (None,)),
    (3, (None,) + GOOD[1]), (3, {"10-": -1}), (3, (GOOD[1],)), GOOD[1], (GOOD,), (3, (("10-", (1,)),)),
    (10 ** 39, GOOD[1]),
]

WRONG_CELLS = [
    (0,), (0, 0, 0), [0, 0], ((0, 0),), (-1, 0), (1, 0), (10 ** 39, 0), (0, None), (None, 0), (True, 0),
    (False, 0), (0, True), ("0", 0), (0, "0"), (0, [0]), 0, {0: 0},
]


def all_cells(machine):
    """All cells for which the table has a digit, and some beside them."""
    for i, (lowest, string) in enumerate(machine[2]):
        for y in range(lowest - 2, lowest + len(string) + 2):
            yield (i, y)


class MakeLogicTest(unittest.TestCase):
    def check(self, machine):
        """Compare a logic that is made with its machine, cell by cell."""
        found = make_logic(machine)
        self.assertIs(is_logic(machine, found), True)
        b, terms = found
        many = sum(len(string) for _, string in machine[2])
        self.assertTrue(type(b) is int and type(terms) is tuple and len(terms) <= many)
        for i, y in all_cells(machine):
            self.assertIsNot(plain_fits(machine, found, i, y), False)
        self.assertEqual(judge_logic(machine, found), ("fits",))
        self.assertIs(logic_holds(machine, found, ("fits",)), True)
        return found

    def test_examples(self):
        self.assertEqual(judge_logic(ONE_MACHINE, make_logic(ONE_MACHINE)), ("fits",))

    def test_all_schemes_and_looks(self):
        many = 0
        for scheme in SCHEMES:
            for look in LOOKS:
                machine = outline_machine(scheme, look)
                if sum(len(string) for _, string in machine[2]) <= 200:
                    many += 1
                    self.check(machine)
        self.assertGreater(many, 50)

    def test_rows_far_from_zero(self):
        for lowest in (-2000, -2048, -1024, -1025, 1023, 1024, 2000, 2047, 0, -1, 1):
            machine = ((2, 2), (0, 1, "one"), ((lowest, (1,)), (lowest, (-2,))))
            self.assertLessEqual(self.check(machine)[0], 12)
            machine = ((2, 2), (0, 1, "pair"), ((lowest, (1,)), (0, (-2, 2))))
            self.assertLessEqual(self.check(machine)[0], 12)
        self.assertLessEqual(self.check(((1, 1), (0, 0, "one"), ((-2000, (0, 1) * 100),)))[0], 12)
        self.assertLessEqual(self.check(((1, 1), (0, 0, "one"), ((1801, (0, 1) * 100),)))[0], 12)

    def test_rows_of_one_digit(self):
        for lowest in range(-5, 6):
            for digit in (-1, 0, 1):
                self.check(((1, 1), (0, 0, "one"), ((lowest, (digit,)),)))

    def test_many_rows(self):
        chosen = Random(2)
        rows = tuple(
            (chosen.randint(-2000, 1990), tuple(chosen.randint(-7, 7) for _ in range(12)))
            for _ in range(16)
        )
        self.check(((3, 7), (2, 4, "pair"), rows))

    def test_wrong_machines(self):
        for machine in odd_values() + wrong_integers() + [ONE_MACHINE[:2], list(ONE_MACHINE)]:
            with self.assertRaises(BadMachine) as caught:
                make_logic(machine)
            self.assertIs(caught.exception.thing, machine)


class IsLogicTest(unittest.TestCase):
    def test_examples(self):
        self.assertIs(is_logic(ONE_MACHINE, (3, (("1", 0),))), False)
        self.assertIs(is_logic(ONE_MACHINE, GOOD), True)
        self.assertIs(is_logic(TWO_ROWS, TWO_LOGIC), True)

    def test_logics(self):
        for logic in (
            (1, ()), (12, ()), (1, (("-", 0),)), (3, GOOD[1] * 16), (3, (("---", -1), ("---", 1))),
            (2, (("01", 0), ("-0", 1), ("--", -1))), (10 ** 39, ()),
        ):
            self.assertIs(is_logic(ONE_MACHINE, logic), True)
            self.assertIs(is_logic(PAIR_MACHINE, logic), True)

    def test_digits_and_widths_of_the_machine(self):
        for k, a in SCHEMES:
            for s in range(4):
                machine = ((k, a), (0, s, "one"), ((0, (0,)),) * 2 ** s)
                for digit in range(-9, 10):
                    for b in (1, 2, 5):
                        for length in range(9):
                            thing = (b, (("-" * length, digit),))
                            right = abs(digit) <= a and length == b + s
                            self.assertIs(is_logic(machine, thing), right)

    def test_other_values(self):
        for thing in odd_values() + wrong_integers() + WRONG_LOGICS:
            self.assertIs(is_logic(ONE_MACHINE, thing), False, thing)


class OutputTest(unittest.TestCase):
    def test_examples(self):
        self.assertEqual(output(ONE_MACHINE, GOOD, (0, -3)), -1)
        self.assertEqual(output(ONE_MACHINE, GOOD, (0, 4)), -1)

    def test_against_words_in_binary(self):
        chosen = Random(4)
        seen = {None: 0}
        for machine, s, a in ((ONE_MACHINE, 0, 1), (TWO_ROWS, 1, 2), (outline_machine((3, 5), (0, 3, "pair")), 3, 5)):
            for _ in range(150):
                b = chosen.randint(1, 4)
                terms = tuple(
                    ("".join(chosen.choice("01-") for _ in range(b + s)), chosen.randint(-a, a))
                    for _ in range(chosen.randint(0, 6))
                )
                for _ in range(12):
                    cell = (chosen.randrange(2 ** s), chosen.randint(-20, 20))
                    found = output(machine, (b, terms), cell)
                    self.assertEqual(found, plain_output(machine, (b, terms), cell))
                    seen[found] = seen.get(found, 0) + 1
        self.assertGreater(min(seen.values()), 20)

    def test_no_terms(self):
        for b in (1, 3, 12, 10 ** 39):
            for y in (0, -1, 7, 10 ** 39):
                self.assertIs(output(ONE_MACHINE, (b, ()), (0, y)), None)

    def test_terms_that_agree_and_disagree(self):
        for terms, found in (
            ((("-", 1), ("-", 1)), (1, 1)), ((("-", 1), ("-", -1)), (None, None)),
            ((("-", 1), ("1", -1)), (1, None)), ((("0", 0),), (0, None)), ((("1", 0),), (None, 0)),
            ((("1", 0), ("1", 0), ("0", 1)), (1, 0)), ((("1", 0), ("1", 1), ("1", 0)), (None, None)),
            ((("0", 0), ("-", 0), ("1", 1)), (0, None)),
        ):
            self.assertEqual((output(ONE_MACHINE, (1, terms), (0, 0)),
                              output(ONE_MACHINE, (1, terms), (0, -1))), found)

    def test_y_beyond_the_width(self):
        for y in range(-40, 41):
            inside = (y + 4) % 8 - 4
            self.assertEqual(output(ONE_MACHINE, GOOD, (0, y)), output(ONE_MACHINE, GOOD, (0, inside)))
        for y, digit in ((-4, -1), (3, 1), (4, -1), (-5, 1), (8 * 10 ** 38 + 3, 1), (-8 * 10 ** 38 - 4, -1)):
            self.assertEqual(output(ONE_MACHINE, GOOD, (0, y)), digit)

    def test_bits_of_y_come_first(self):
        logic = (2, (("01-", 1), ("--1", -1)))
        for cell, found in (((0, 1), 1), ((1, 1), None), ((1, 2), -1), ((0, 2), None)):
            self.assertEqual(output(TWO_ROWS, logic, cell), found)

    def test_wrong_cells(self):
        for cell in odd_values() + wrong_integers() + WRONG_CELLS:
            with self.assertRaises(BadCell) as caught:
                output(ONE_MACHINE, GOOD, cell)
            self.assertIs(caught.exception.thing, cell)
        for s in range(4):
            machine = ((1, 1), (0, s, "one"), ((0, (0,)),) * 2 ** s)
            self.assertIs(output(machine, (1, ()), (2 ** s - 1, 0)), None)
            with self.assertRaises(BadCell):
                output(machine, (1, ()), (2 ** s, 0))


class JudgeLogicTest(unittest.TestCase):
    def check(self, machine, logic):
        """Compare a certificate with all cells; give it."""
        cells = {cell: plain_fits(machine, logic, *cell) for cell in all_cells(machine)}
        fits = False not in cells.values()
        found = judge_logic(machine, logic)
        self.assertIs(type(found), tuple)
        self.assertIs(logic_holds(machine, logic, found), True)
        self.assertIs(logic_holds(machine, logic, ("fits",)), fits)
        if fits:
            self.assertEqual(found, ("fits",))
        else:
            self.assertEqual((len(found), found[0]), (3, "cell"))
            self.assertIs(cells[found[1:]], False)
        for (i, y), right in cells.items():
            self.assertIs(logic_holds(machine, logic, ("cell", i, y)), right is False)
        return found

    def test_examples(self):
        self.assertEqual(self.check(ONE_MACHINE, GOOD), ("fits",))
        self.assertEqual(self.check(TWO_ROWS, TWO_LOGIC), ("fits",))
        self.assertEqual(self.check(ONE_MACHINE, (3, GOOD[1][:5]))[0], "cell")
        self.assertIs(logic_holds(ONE_MACHINE, (3, GOOD[1][:5]), ("cell", 0, 2)), True)

    def test_one_term_less_or_otherwise(self):
        for machine, (b, terms) in ((ONE_MACHINE, GOOD), (TWO_ROWS, TWO_LOGIC)):
            for at, (pattern, digit) in enumerate(terms):
                before, after = terms[:at], terms[at + 1:]
                self.check(machine, (b, before + after))
                for other in range(-1, 2):
                    self.check(machine, (b, before + ((pattern, other),) + after))
                    self.check(machine, (b, terms + ((pattern, other),)))
                for place in range(len(pattern)):
                    for sign in "01-":
                        changed = (pattern[:place] + sign + pattern[place + 1:], digit)
                        self.check(machine, (b, before + (changed,) + after))

    def test_order_and_repetition_do_not_matter(self):
        self.assertEqual(self.check(ONE_MACHINE, (3, GOOD[1][::-1] + GOOD[1])), ("fits",))

    def test_no_terms(self):
        for b in (1, 3, 12):
            self.assertEqual(self.check(ONE_MACHINE, (b, ()))[0], "cell")
            self.assertEqual(self.check(TWO_ROWS, (b, ()))[0], "cell")
        self.assertEqual(judge_logic(ONE_MACHINE, (10 ** 39, ()))[0], "cell")

    def test_y_at_the_ends_of_the_width(self):
        # A logic that gives 0 everywhere fits exactly the rows that lie within its width.
        for b in (1, 2, 3, 12):
            half = 2 ** (b - 1)
            everywhere = (b, (("-" * b, 0),))
            for lowest, many, fits in (
                (-half, 1, True), (half - 1, 1, True), (-half - 1, 1, False), (half, 1, False),
                (-half, min(2 * half, 200), True), (half - 1, 2, False), (-half - 1, 2, False),
            ):
                machine = ((1, 1), (0, 0, "one"), ((lowest, (0,) * many),))
                self.assertEqual(self.check(machine, everywhere) == ("fits",), fits)

    def test_the_same_bits_beyond_the_width(self):
        # The bits of 4 in the width 3 are those of -4, but 4 lies outside the width.
        machine = ((1, 1), (0, 0, "one"), ((4, (-1,)),))
        self.assertEqual(output(machine, GOOD, (0, 4)), -1)
        self.assertEqual(self.check(machine, GOOD), ("cell", 0, 4))

    def test_digits_for_cells_that_are_not_reached_count(self):
        machine = ((1, 1), (0, 0, "one"), ((-4, (-1, -1, -1, 0, 0, 1, 1, 1, 0)),))
        self.assertEqual(self.check(machine, GOOD), ("cell", 0, 4))
        self.assertEqual(self.check(machine, make_logic(machine)), ("fits",))

    def test_cells_without_a_digit_do_not_count(self):
        machine = ((1, 1), (0, 0, "one"), ((-1, (0, 0)),))
        self.assertEqual(self.check(machine, (3, (("111", 0), ("000", 0)))), ("fits",))
        self.assertEqual(self.check(machine, (3, (("---", 0),))), ("fits",))
        self.assertEqual(self.check(machine, GOOD), ("fits",))


class LogicHoldsTest(unittest.TestCase):
    def test_things_that_are_no_certificates(self):
        short = (3, GOOD[1][:5])
        wrong = odd_values() + wrong_integers() + [
            "fits", ["fits"], ("Fits",), ("fits", None), ("fits", 0, 2), (("fits",),), ("cell",), ("cell", 0),
            ("cell", (0, 2)), ("cell", 0, 2, 0), ["cell", 0, 2], ("Cell", 0, 2), ("cell", False, 2),
            ("cell", 0, True), ("cell", 0, None), ("cell", None, 2), ("cell", "0", 2), ("cell", 0, "2"),
            ("cell", 1, 2), ("cell", -1, 2), ("cell", 10 ** 39, 2), ("cell", 0, 10 ** 39),
            ("cell", 0, -10 ** 39), ("cell", 0, 0), ("cell", 0, 4), ("cell", 0, -5), ("cell", 0, [2]),
            (None, 0, 2), (0, 2), (0, 2, "cell"), {"cell": 0}, ("cell", (0,), 2), ("right",), ("suits",),
        ]
        for thing in wrong:
            for logic in (GOOD, short):
                self.assertIs(logic_holds(ONE_MACHINE, logic, thing), False, thing)
        self.assertIs(logic_holds(ONE_MACHINE, short, ("fits",)), False)
        for y in (2, 3):
            self.assertIs(logic_holds(ONE_MACHINE, short, ("cell", 0, y)), True)
            self.assertIs(logic_holds(ONE_MACHINE, GOOD, ("cell", 0, y)), False)


class WrongArgumentsTest(unittest.TestCase):
    def calls(self, machine, logic):
        return [
            lambda: output(machine, logic, (0, 0)), lambda: output(machine, logic, None),
            lambda: judge_logic(machine, logic), lambda: logic_holds(machine, logic, ("fits",)),
            lambda: logic_holds(machine, logic, None),
        ]

    def test_wrong_machines(self):
        for machine in odd_values() + wrong_integers() + [ONE_MACHINE[:2], list(ONE_MACHINE)]:
            for logic in (GOOD, None):
                for call in self.calls(machine, logic) + [lambda: is_logic(machine, logic)]:
                    with self.assertRaises(BadMachine) as caught:
                        call()
                    self.assertIs(caught.exception.thing, machine)

    def test_wrong_logics(self):
        for logic in odd_values() + wrong_integers() + WRONG_LOGICS + [TWO_LOGIC]:
            for call in self.calls(ONE_MACHINE, logic):
                with self.assertRaises(BadLogic) as caught:
                    call()
                self.assertIs(caught.exception.thing, logic)


if __name__ == "__main__":
    unittest.main()
