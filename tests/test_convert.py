import unittest

from quotientcells.convert import appended, registers
from quotientcells.errors import BadDigits, BadScheme
from samples import SCHEMES, all_strings, odd_values, plain_value


def ordinary(r, number, places):
    """The ordinary digits of [2.1], by remainders."""
    digits = []
    number = number % r ** places
    for place in range(places):
        digits.append(number // r ** (places - 1 - place) % r)
    return tuple(digits)


def plain_registers(scheme, string):
    number = plain_value(scheme, string)
    r = 2 ** scheme[0]
    return (ordinary(r, number, len(string)), ordinary(r, number - 1, len(string)))


class RegistersTest(unittest.TestCase):
    def test_examples(self):
        self.assertEqual(registers((2, 2), ()), ((), ()))
        self.assertEqual(registers((2, 2), (1,)), ((1,), (0,)))
        self.assertEqual(registers((2, 2), (1, -2)), ((0, 2), (0, 1)))
        self.assertEqual(registers((2, 2), (-1, 2)), ((3, 2), (3, 1)))

    def test_empty_string(self):
        for scheme in SCHEMES:
            self.assertEqual(registers(scheme, ()), ((), ()))

    def test_short_strings(self):
        for scheme in SCHEMES:
            for m in range(1, 4):
                for string in all_strings(scheme, m):
                    self.assertEqual(registers(scheme, string), plain_registers(scheme, string))

    def test_six_digits(self):
        for string in all_strings((1, 1), 6):
            self.assertEqual(registers((1, 1), string), plain_registers((1, 1), string))

    def test_long_strings(self):
        for k, a in SCHEMES:
            pattern = (0, 1, -1, a, -a, 0, 0, -1, 1, -a, a, 0)
            strings = [
                (a,) * 30, (-a,) * 30, (0,) * 30, (1,) + (0,) * 29, (0,) * 29 + (1,),
                (0,) * 29 + (-1,), (1,) + (-a,) * 29, (-1,) + (a,) * 29, (pattern * 3)[:30],
                (a, -a) * 15, (-1, 0, 0) * 10,
            ]
            for string in strings:
                self.assertEqual(registers((k, a), string), plain_registers((k, a), string))

    def test_wrong_strings(self):
        for k, a in SCHEMES:
            wrong = odd_values() + [
                0, 1, "1", [1], [0, 0], {0: 1}, (0, False), (a + 1,), (-a - 1,), (0, a + 1),
                (-a - 1, 0), ((0,),), ([0],), (0, ()), ((), ()),
            ]
            for string in wrong:
                with self.assertRaises(BadDigits) as caught:
                    registers((k, a), string)
                self.assertIs(caught.exception.thing, string)

    def test_scheme_is_looked_at_first(self):
        for scheme in odd_values() + [(2, 1), (1, 0), [1, 1]]:
            for string in ((), (1,), [1], None, (9,)):
                with self.assertRaises(BadScheme) as caught:
                    registers(scheme, string)
                self.assertIs(caught.exception.thing, scheme)


class AppendedTest(unittest.TestCase):
    def test_example(self):
        self.assertEqual(appended((1, 1), ((0, 1), (0, 0)), -1), ((0, 0, 1), (0, 0, 0)))

    def test_to_nothing(self):
        self.assertEqual(appended((2, 2), ((), ()), 2), ((2,), (1,)))
        self.assertEqual(appended((2, 2), ((), ()), 1), ((1,), (0,)))
        self.assertEqual(appended((2, 2), ((), ()), 0), ((0,), (3,)))
        self.assertEqual(appended((2, 2), ((), ()), -1), ((3,), (2,)))
        self.assertEqual(appended((2, 2), ((), ()), -2), ((2,), (1,)))

    def test_agrees_with_registers(self):
        for k, a in SCHEMES:
            for m in range(3):
                for string in all_strings((k, a), m):
                    pair = registers((k, a), string)
                    for digit in range(-a, a + 1):
                        longer = registers((k, a), string + (digit,))
                        self.assertEqual(appended((k, a), pair, digit), longer)

    def test_digit_by_digit_to_thirty(self):
        for k, a in SCHEMES:
            string = ((a, -a, 0, -1, 1, 0, -a, a) * 4)[:30]
            pair = ((), ())
            for digit in string:
                pair = appended((k, a), pair, digit)
            self.assertEqual(pair, plain_registers((k, a), string))

    def test_tuples_that_are_no_registers(self):
        for k, a in SCHEMES:
            r = 2 ** k
            one, other = (r - 1, 0, 0), (0, 0, r - 1)
            pair = (one, other)
            self.assertEqual(appended((k, a), pair, a), (one + (a,), one + (a - 1,)))
            self.assertEqual(appended((k, a), pair, 1), (one + (1,), one + (0,)))
            self.assertEqual(appended((k, a), pair, 0), (one + (0,), other + (r - 1,)))
            self.assertEqual(appended((k, a), pair, -1), (other + (r - 1,), other + (r - 2,)))
            self.assertEqual(appended((k, a), pair, -a), (other + (r - a,), other + (r - 1 - a,)))
            self.assertEqual(appended((k, a), (one, one), 0), (one + (0,), one + (r - 1,)))

    def test_ordinary_digits_may_be_above_the_digits_of_the_scheme(self):
        self.assertEqual(appended((2, 2), ((3,), (3,)), 2), ((3, 2), (3, 1)))
        self.assertEqual(appended((3, 4), ((7, 5), (6, 0)), -4), ((6, 0, 4), (6, 0, 3)))

    def test_wrong_pairs(self):
        for k, a in SCHEMES:
            r = 2 ** k
            wrong = odd_values() + [
                0, "01", (), ((),), ((), (), ()), ([], []), ((), []), ([], ()),
                ((0,), ()), ((), (0,)), ((0, 0), (0,)), ((0,), (0, 0)),
                ((r,), (0,)), ((0,), (r,)), ((-1,), (0,)), ((0,), (-1,)), ((0, r), (0, 0)),
                ((True,), (0,)), ((0,), (False,)), ((None,), (0,)), ((0,), ("0",)), (0, 0),
                ("", ""), ((0, 0), "00"), ("00", (0, 0)), ((0, 0), {0: 0, 1: 0}), ((), None),
                (((),), ((),)), ((0,), (0,), (0,)), ((10 ** 39,), (0,)),
            ]
            for pair in wrong:
                for digit in (0, a, -a, a + 1, None, True):
                    with self.assertRaises(BadDigits) as caught:
                        appended((k, a), pair, digit)
                    self.assertIs(caught.exception.thing, pair)

    def test_wrong_digits(self):
        for k, a in SCHEMES:
            for pair in (((), ()), ((0,), (1,))):
                wrong = [None, True, False, "0", "", (), (0,), [0], {}, a + 1, -a - 1, 10 ** 39]
                for digit in wrong:
                    with self.assertRaises(BadDigits) as caught:
                        appended((k, a), pair, digit)
                    self.assertIs(caught.exception.thing, digit)

    def test_scheme_is_looked_at_first(self):
        for scheme in odd_values() + [(2, 1), (3, 8)]:
            for pair, digit in ((((), ()), 0), (None, 0), (((), ()), None), ([], True)):
                with self.assertRaises(BadScheme) as caught:
                    appended(scheme, pair, digit)
                self.assertIs(caught.exception.thing, scheme)


if __name__ == "__main__":
    unittest.main()
