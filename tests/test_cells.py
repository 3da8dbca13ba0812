import unittest

from quotientcells.cells import digit_holds, is_reached, judge_digit, reached, suitable
from quotientcells.errors import BadCell, BadDigits, BadLook, BadNumber, BadScheme
from samples import (
    LOOKS, SCHEMES, all_operands, odd_values, outline, outline_digits, plain_bounds, plain_cell,
    plain_suits, words_of, wrong_integers,
)

ONE, PAIR = (0, 0, "one"), (0, 0, "pair")

# Looks at the ends of the limits, too great to go through all their cells here.
GREAT_LOOKS = (
    (4, 2, "one"), (2, 4, "one"), (0, 4, "one"), (4, 2, "pair"), (2, 4, "pair"), (4, 0, "pair"), (0, 4, "pair"),
)

# Values that are no cell of a look whose s is 1.
WRONG_CELLS = [
    (0,), (0, 0, 0), [0, 0], ((0, 0),), (-1, 0), (2, 0), (10 ** 39, 0), (-10 ** 39, 0), (0, None),
    (None, 0), (True, 0), (False, 0), (0, True), (0, False), ("0", 0), (0, "0"), ((0,), 0), (0, [0]),
    0, "00", {0: 0},
]


def digits_of(scheme):
    return range(-scheme[1], scheme[1] + 1)


def chosen_cells(scheme, look):
    """Reached cells of a look: the outermost ones, those around 0, and some in between."""
    parts = range(2 ** look[1])
    for i in sorted({0, parts[-1] // 3, parts[-1]}):
        least, most = reached(scheme, look, i)
        inner = set(range(-3, 3)) | set(range(least, most + 1, 11))
        for y in sorted({least, least + 1, most - 1, most} | {y for y in inner if least <= y <= most}):
            yield (i, y)


class ReachedTest(unittest.TestCase):
    def test_examples(self):
        self.assertEqual(reached((1, 1), ONE, 0), (-4, 3))
        self.assertEqual(reached((1, 1), PAIR, 0), (-5, 3))
        self.assertIs(is_reached((1, 1), ONE, (0, 4)), False)

    def test_against_outlines(self):
        for scheme in SCHEMES:
            for look in LOOKS:
                for i in range(2 ** look[1]):
                    least, most = reached(scheme, look, i)
                    for y in range(least - 3, most + 4):
                        inside = outline(scheme, look, (i, y)) != ()
                        self.assertIs(inside, least <= y <= most, (scheme, look, i, y))
                        self.assertIs(is_reached(scheme, look, (i, y)), inside)

    def test_outermost_cells_and_the_next_ones(self):
        for scheme in SCHEMES:
            for look in GREAT_LOOKS:
                for i in range(2 ** look[1]):
                    least, most = reached(scheme, look, i)
                    for y, inside in ((least - 1, False), (least, True), (most, True), (most + 1, False)):
                        self.assertIs(is_reached(scheme, look, (i, y)), inside)
                        self.assertIs(outline(scheme, look, (i, y)) != (), inside)

    def test_against_all_operands_of_a_width(self):
        for scheme in ((1, 1), (2, 2), (2, 3), (3, 4)):
            for look in LOOKS:
                if scheme[0] + look[0] > 4:
                    continue
                found = {}
                for dividend, d, n in all_operands(scheme, look[2], 4):
                    i, y = plain_cell(scheme, look, dividend, d, n)
                    found.setdefault(i, set()).add(y)
                for i, ys in found.items():
                    least, most = reached(scheme, look, i)
                    self.assertLessEqual(least, min(ys))
                    self.assertGreaterEqual(most, max(ys))

    def test_operands_fall_into_the_outermost_cells(self):
        for k, a in SCHEMES:
            for look in LOOKS:
                t, s, kind = look
                for i in range(2 ** s):
                    least, most = reached((k, a), look, i)
                    d = (2 ** s + i + 1) * 2 ** (40 - s) - 1
                    x = a * d // (2 ** k - 1)
                    dividend = x if kind == "one" else (x, 0)
                    self.assertEqual(plain_cell((k, a), look, dividend, d, 40), (i, most))
                    # One unit less in a word and all but one unit in the other one.
                    unit = 2 ** (40 - k - t)
                    dividend = -x if kind == "one" else (-x - unit + 1, unit - 1)
                    self.assertEqual(plain_cell((k, a), look, dividend, d, 40), (i, least))

    def test_far_cells(self):
        for y in (10 ** 39, -10 ** 39, 5000, -5000):
            self.assertIs(is_reached((3, 7), (2, 2, "pair"), (3, y)), False)

    def test_wrong_i(self):
        for wrong in odd_values() + wrong_integers() + [-1, 2, 10 ** 39, -10 ** 39]:
            with self.assertRaises(BadNumber) as caught:
                reached((1, 1), (0, 1, "one"), wrong)
            self.assertIs(caught.exception.thing, wrong)
        for s in range(5):
            with self.assertRaises(BadNumber) as caught:
                reached((1, 1), (0, s, "pair"), 2 ** s)
            self.assertEqual(caught.exception.thing, 2 ** s)
            self.assertEqual(len(reached((1, 1), (0, s, "pair"), 2 ** s - 1)), 2)


class SuitableTest(unittest.TestCase):
    def test_examples(self):
        found = [suitable((1, 1), ONE, (0, y)) for y in range(-4, 4)]
        self.assertEqual(found, [(-1,), (-1,), (-1,), (-1, 0), (0, 1), (1,), (1,), (1,)])
        self.assertEqual([suitable((1, 1), PAIR, (0, y)) for y in (-2, -1, 0)], [(-1,), (0,), (1,)])

    def test_against_outlines(self):
        for scheme in SCHEMES:
            for look in LOOKS:
                if sum(look[:2]) > 2:
                    continue
                for i in range(2 ** look[1]):
                    least, most = reached(scheme, look, i)
                    for y in range(least, most + 1):
                        expected = outline_digits(scheme, outline(scheme, look, (i, y)))
                        self.assertEqual(suitable(scheme, look, (i, y)), expected)

    def test_great_looks_against_outlines(self):
        for scheme in SCHEMES:
            for look in GREAT_LOOKS:
                for cell in chosen_cells(scheme, look):
                    expected = outline_digits(scheme, outline(scheme, look, cell))
                    self.assertEqual(suitable(scheme, look, cell), expected)

    def test_against_all_operands_of_a_width(self):
        for scheme, look, n in (
            ((1, 1), ONE, 5), ((1, 1), (1, 1, "one"), 6), ((2, 2), (1, 1, "one"), 6),
            ((2, 3), (2, 0, "one"), 6), ((1, 1), PAIR, 5), ((1, 1), (1, 1, "pair"), 5), ((2, 3), PAIR, 5),
        ):
            left = {}
            for operands in all_operands(scheme, look[2], n):
                cell = plain_cell(scheme, look, *operands)
                left.setdefault(cell, [q for q in digits_of(scheme)])
                left[cell] = [q for q in left[cell] if plain_suits(scheme, look[2], operands, q)]
            for cell, digits in left.items():
                self.assertIs(is_reached(scheme, look, cell), True)
                # At this width no digit is saved by the operands being too few.
                self.assertEqual(suitable(scheme, look, cell), tuple(digits), (scheme, look, cell))

    def test_all_digits_suit_a_cell_that_is_not_reached(self):
        for scheme in SCHEMES:
            for look in LOOKS:
                least, most = reached(scheme, look, 0)
                for y in (least - 1, most + 1, 10 ** 39, -10 ** 39):
                    self.assertEqual(suitable(scheme, look, (0, y)), tuple(digits_of(scheme)))
                    for digit in digits_of(scheme):
                        self.assertEqual(judge_digit(scheme, look, (0, y), digit), ("suits",))
                        self.assertIs(digit_holds(scheme, look, (0, y), digit, ("suits",)), True)

    def test_cells_with_no_suitable_digit(self):
        none = [y for y in range(*reached((2, 2), ONE, 0)) if suitable((2, 2), ONE, (0, y)) == ()]
        self.assertGreater(len(none), 0)

    def test_kinds_of_the_results(self):
        found = suitable((3, 5), (3, 3, "one"), (0, 0))
        self.assertIs(type(found), tuple)
        self.assertEqual([type(digit) for digit in found], [int] * len(found))


class JudgeDigitTest(unittest.TestCase):
    def check(self, scheme, look, cell, digit):
        """Compare a certificate with the outline of its cell, and its operands with [5.2]."""
        found = judge_digit(scheme, look, cell, digit)
        self.assertIs(type(found), tuple)
        fine = digit in outline_digits(scheme, outline(scheme, look, cell))
        self.assertIs(digit_holds(scheme, look, cell, digit, found), True)
        self.assertIs(digit_holds(scheme, look, cell, digit, ("suits",)), fine)
        if fine:
            self.assertEqual(found, ("suits",))
            return
        self.assertEqual((len(found), found[0]), (2, "operands"))
        dividend, d, n = found[1]
        words = words_of(look[2], dividend)
        self.assertTrue(1 <= n <= 40 and 2 ** n <= d < 2 ** (n + 1))
        self.assertTrue(all(type(word) is int and abs(word) <= 10 ** 40 for word in words))
        self.assertEqual(len(words), 1 if look[2] == "one" else 2)
        self.assertTrue(plain_bounds(scheme, sum(words), d))
        self.assertEqual(plain_cell(scheme, look, dividend, d, n), cell)
        self.assertFalse(plain_suits(scheme, look[2], found[1], digit))

    def test_examples(self):
        self.assertEqual(judge_digit((1, 1), ONE, (0, 0), 1), ("suits",))
        self.assertEqual(judge_digit((1, 1), ONE, (0, 0), -1)[0], "operands")
        self.assertIs(digit_holds((1, 1), ONE, (0, 0), -1, ("operands", (1, 4, 2))), True)

    def test_small_looks(self):
        for scheme in SCHEMES:
            for look in LOOKS:
                if sum(look[:2]) > 1:
                    continue
                for i in range(2 ** look[1]):
                    least, most = reached(scheme, look, i)
                    for y in range(least, most + 1):
                        for digit in digits_of(scheme):
                            self.check(scheme, look, (i, y), digit)

    def test_great_looks(self):
        for scheme in SCHEMES:
            for look in GREAT_LOOKS:
                for cell in chosen_cells(scheme, look):
                    fine = suitable(scheme, look, cell)
                    next_ones = [q for q in digits_of(scheme) if q not in fine and (
                        q + 1 in fine or q - 1 in fine or abs(q) == scheme[1]
                    )]
                    for digit in next_ones + list(fine):
                        self.check(scheme, look, cell, digit)


class DigitHoldsTest(unittest.TestCase):
    def test_certificates_of_others(self):
        for scheme, look, n in (((1, 1), ONE, 3), ((2, 2), (1, 1, "one"), 3), ((1, 1), PAIR, 2)):
            cells = [(i, y) for i in range(2 ** look[1]) for y in range(-14, 14)]
            for operands in list(all_operands(scheme, look[2], n))[::3]:
                for cell in cells:
                    falls = plain_cell(scheme, look, *operands) == cell
                    for digit in digits_of(scheme):
                        right = falls and not plain_suits(scheme, look[2], operands, digit)
                        thing = ("operands", operands)
                        self.assertIs(digit_holds(scheme, look, cell, digit, thing), right)

    def test_operands_of_great_widths(self):
        for n in (40, 60, 125):
            for operands, right in (
                ((0, 2 ** n, n), False), ((1, 2 ** n, n), True), ((2 ** n // 2 - 1, 2 ** n, n), True),
                ((2 ** n // 2, 2 ** n, n), False), ((1, 2 ** n, n - 1), False), ((1, 2 ** n, n + 1), False),
            ):
                thing = ("operands", operands)
                self.assertIs(digit_holds((1, 1), ONE, (0, 0), -1, thing), right)

    def test_bounds_of_the_cell(self):
        # In the width 2 the digit -1 of (1, 1) suits the dividend 0 alone of those in the cell (0, 0).
        for x, right in ((-1, False), (0, False), (1, True), (2, False)):
            self.assertIs(digit_holds((1, 1), ONE, (0, 0), -1, ("operands", (x, 4, 2))), right)

    def test_words_that_cancel(self):
        # Two words that cancel are seen as a whole unit less than 0 is.
        for great in (1, 3, 10 ** 39 + 1):
            thing = ("operands", ((great, -great), 5, 2))
            for cell in ((0, -1), (0, 0)):
                self.assertIs(digit_holds((1, 1), PAIR, cell, 0, thing), False)
        for words, right in (((3, 3), False), ((3, -1), True), ((1, 1), True), ((0, 0), False)):
            thing = ("operands", (words, 5, 2))
            self.assertIs(digit_holds((1, 1), PAIR, plain_cell((1, 1), PAIR, words, 5, 2), -1, thing), right)

    def test_things_that_are_no_certificates(self):
        good = (1, 4, 2)
        wrong = odd_values() + wrong_integers() + [
            "suits", "operands", ("suits", None), ("suits", good), ("suits", "suits"), ["suits"],
            ("Suits",), (("suits",),), ("operands",), ("operands", good, good), ["operands", good],
            ("operands", list(good)), ("operand", good), ("right",), ("operands", 1, 4, 2), good,
            ("operands", (1, 4)), ("operands", (1, 4, 2, 2)), ("operands", (True, 4, 2)),
            ("operands", (1, 4, True)), ("operands", (1, 3, 2)), ("operands", (1, 8, 2)),
            ("operands", (9, 4, 2)), ("operands", ((1, 0), 4, 2)), ("operands", None),
            ("operands", ("1", 4, 2)), ("operands", (1, 4, 10 ** 39)), (None, good), (True,),
            ("operands", (good,)), {"operands": good}, (good, "operands"), ("suits", []),
        ]
        for thing in wrong:
            for digit in (-1, 0, 1):
                self.assertIs(digit_holds((1, 1), ONE, (0, 0), digit, thing), False, thing)
        self.assertIs(digit_holds((1, 1), ONE, (0, 0), -1, ("operands", good)), True)

    def test_exactly_one_kind_of_certificate(self):
        for scheme in SCHEMES:
            for y in range(-4, 4):
                for digit in digits_of(scheme):
                    found = judge_digit(scheme, (1, 0, "pair"), (0, y), digit)
                    fine = digit_holds(scheme, (1, 0, "pair"), (0, y), digit, ("suits",))
                    self.assertIs(fine, found == ("suits",))


class WrongArgumentsTest(unittest.TestCase):
    def calls(self, scheme, look, cell, digit):
        """All functions of the file on these arguments, and whether each one has a digit."""
        return [
            (False, lambda: is_reached(scheme, look, cell)),
            (False, lambda: suitable(scheme, look, cell)),
            (True, lambda: judge_digit(scheme, look, cell, digit)),
            (True, lambda: digit_holds(scheme, look, cell, digit, ("suits",))),
        ]

    def expect(self, error, thing, call):
        with self.assertRaises(error) as caught:
            call()
        self.assertIs(caught.exception.thing, thing)

    def test_wrong_schemes(self):
        for scheme in odd_values() + wrong_integers() + [(2, 1), (1, 2), [1, 1]]:
            for look, cell, digit in ((ONE, (0, 0), 0), (None, (0, 0), 0), (None, None, None)):
                for _, call in self.calls(scheme, look, cell, digit):
                    self.expect(BadScheme, scheme, call)
                self.expect(BadScheme, scheme, lambda: reached(scheme, look, 0))
                self.expect(BadScheme, scheme, lambda: reached(scheme, look, None))

    def test_wrong_looks(self):
        wrong = odd_values() + wrong_integers() + [
            (0, 0), (0, 0, "two"), [0, 0, "one"], (True, 0, "one"), (0, False, "one"), (-1, 0, "one"),
        ]
        for look in wrong:
            for cell, digit in (((0, 0), 0), (None, 0), (None, None)):
                for _, call in self.calls((1, 1), look, cell, digit):
                    self.expect(BadLook, look, call)
                self.expect(BadLook, look, lambda: reached((1, 1), look, 0))
                self.expect(BadLook, look, lambda: reached((1, 1), look, -1))

    def test_wrong_cells(self):
        for cell in odd_values() + [None, True, "3", 3] + WRONG_CELLS:
            for digit in (0, 2, None, True):
                for _, call in self.calls((1, 1), (0, 1, "one"), cell, digit):
                    self.expect(BadCell, cell, call)

    def test_parts_of_a_look(self):
        for s in range(5):
            for i in range(2 ** s):
                self.assertIs(is_reached((1, 1), (0, s, "one"), (i, 0)), True)
            for i in (-1, 2 ** s):
                cell = (i, 0)
                for _, call in self.calls((1, 1), (0, s, "one"), cell, 0):
                    self.expect(BadCell, cell, call)

    def test_wrong_digits(self):
        for k, a in SCHEMES:
            for digit in odd_values() + wrong_integers() + [a + 1, -a - 1, 10 ** 39]:
                for has_digit, call in self.calls((k, a), (0, 1, "pair"), (1, 0), digit):
                    if has_digit:
                        self.expect(BadDigits, digit, call)

    def test_thing_may_be_anything_but_errors_come_first(self):
        for thing in odd_values() + wrong_integers():
            self.expect(BadScheme, None, lambda: digit_holds(None, ONE, (0, 0), 0, thing))
            self.expect(BadDigits, None, lambda: digit_holds((1, 1), ONE, (0, 0), None, thing))


if __name__ == "__main__":
    unittest.main()
