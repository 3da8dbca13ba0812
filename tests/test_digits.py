import unittest
from collections import Counter

from quotientcells.digits import bound, greatest, is_scheme, many_strings, strings_of, value
from quotientcells.errors import BadDigits, BadNumber, BadScheme
from samples import SCHEMES, all_strings, odd_values, plain_value, wrong_integers


class SchemesTest(unittest.TestCase):
    def test_examples(self):
        self.assertIs(is_scheme((2, 2)), True)
        self.assertIs(is_scheme((2, 1)), False)
        self.assertEqual(bound((2, 2)), (2, 3))
        self.assertEqual(bound((1, 1)), (1, 1))

    def test_all_pairs_of_small_integers(self):
        for k in range(-3, 7):
            for a in range(-70, 71):
                self.assertIs(is_scheme((k, a)), (k, a) in SCHEMES, (k, a))

    def test_great_integers(self):
        for thing in ((10 ** 39, 1), (1, 10 ** 39), (-10 ** 39, 2), (2, -10 ** 39)):
            self.assertIs(is_scheme(thing), False)

    def test_any_value(self):
        for thing in odd_values() + wrong_integers() + [0, 1, -1, 22]:
            self.assertIs(is_scheme(thing), False, thing)

    def test_schemes_with_parts_changed(self):
        for k, a in SCHEMES:
            changed = [
                [k, a], (k,), (a,), (k, a, a), ((k, a),), (k, [a]), ([k], a), (k, (a,)),
                (str(k), a), (k, str(a)), (None, a), (k, None), {k: a}, str((k, a)),
                (True, a), (k, True), (False, a), (k, False), (k, -a),
            ]
            for thing in changed:
                self.assertIs(is_scheme(thing), False, thing)

    def test_bounds_of_all_schemes(self):
        bounds = [bound(scheme) for scheme in SCHEMES]
        self.assertEqual(bounds, [(1, 1), (2, 3), (1, 1), (4, 7), (5, 7), (6, 7), (1, 1)])

    def test_bound_of_no_scheme(self):
        for thing in odd_values() + [7, (2, 1), (2, 4), (0, 0), (4, 8), (1, 2), (3, 3), (3, 8)]:
            with self.assertRaises(BadScheme) as caught:
                bound(thing)
            self.assertIs(caught.exception.thing, thing)


class ValueTest(unittest.TestCase):
    def test_example(self):
        self.assertEqual(value((2, 2), (1, -2, 2)), 10)

    def test_empty_string(self):
        for scheme in SCHEMES:
            self.assertEqual(value(scheme, ()), 0)

    def test_short_strings(self):
        for scheme in SCHEMES:
            for m in range(4):
                for string in all_strings(scheme, m):
                    self.assertEqual(value(scheme, string), plain_value(scheme, string))

    def test_long_strings(self):
        for k, a in SCHEMES:
            r = 2 ** k
            self.assertEqual(value((k, a), (a,) * 12), a * (r ** 12 - 1) // (r - 1))
            self.assertEqual(value((k, a), (-a,) * 12), -a * (r ** 12 - 1) // (r - 1))
            self.assertEqual(value((k, a), (1,) + (0,) * 11), r ** 11)
            self.assertEqual(value((k, a), (0,) * 11 + (-1,)), -1)
            mixed = (a, 0, -a, 1, -1, 0, a, a, -1, 1, -a, a)
            self.assertEqual(value((k, a), mixed), plain_value((k, a), mixed))

    def test_wrong_strings(self):
        for k, a in SCHEMES:
            wrong = odd_values() + [
                0, 1, [1], (a + 1,), (-a - 1,), (1, 0, a + 1), (0, -a - 1, 0), (2 ** k,),
                (1, True), (0, None), (0, "1"), (1, (1,)), (1, [0]), ((),), "1", {0: 1},
                (10 ** 39,), (-10 ** 39, 0),
            ]
            for string in wrong:
                with self.assertRaises(BadDigits) as caught:
                    value((k, a), string)
                self.assertIs(caught.exception.thing, string)

    def test_scheme_is_looked_at_first(self):
        for scheme in odd_values() + [(2, 1), (2, 4), [2, 2]]:
            for string in ((), (1, 0), None, [1], (9,)):
                with self.assertRaises(BadScheme) as caught:
                    value(scheme, string)
                self.assertIs(caught.exception.thing, scheme)


class GreatestTest(unittest.TestCase):
    def test_example(self):
        self.assertEqual(greatest((2, 2), 3), 42)

    def test_no_digits(self):
        for scheme in SCHEMES:
            self.assertEqual(greatest(scheme, 0), 0)

    def test_against_all_strings(self):
        for scheme in SCHEMES:
            for m in range(1, 4):
                values = [plain_value(scheme, string) for string in all_strings(scheme, m)]
                self.assertEqual(greatest(scheme, m), max(values))
                self.assertEqual(-greatest(scheme, m), min(values))

    def test_many_digits(self):
        for k, a in SCHEMES:
            for m in range(4, 13):
                self.assertEqual(greatest((k, a), m), plain_value((k, a), (a,) * m))

    def test_wrong_m(self):
        for m in wrong_integers() + [-1, -2, -10 ** 39]:
            with self.assertRaises(BadNumber) as caught:
                greatest((2, 2), m)
            self.assertIs(caught.exception.thing, m)

    def test_scheme_is_looked_at_first(self):
        for scheme in odd_values() + [(2, 1), (3, 8)]:
            for m in (3, -1, None, True):
                with self.assertRaises(BadScheme) as caught:
                    greatest(scheme, m)
                self.assertIs(caught.exception.thing, scheme)


class StringsOfTest(unittest.TestCase):
    def test_examples(self):
        self.assertEqual(strings_of((1, 1), 3, 3), ((0, 1, 1), (1, -1, 1), (1, 0, -1)))
        self.assertEqual(many_strings((1, 1), 3, 0), 1)
        self.assertEqual(strings_of((1, 1), 0, 0), ((),))

    def test_no_digits(self):
        for scheme in SCHEMES:
            for number in (-10 ** 39, -2, -1, 0, 1, 2, 10 ** 39):
                expected = ((),) if number == 0 else ()
                self.assertEqual(strings_of(scheme, 0, number), expected)
                self.assertEqual(many_strings(scheme, 0, number), len(expected))

    def test_against_all_strings(self):
        for scheme in SCHEMES:
            for m in range(1, 4):
                found = {}
                for string in all_strings(scheme, m):
                    found.setdefault(plain_value(scheme, string), []).append(string)
                most = greatest(scheme, m)
                for number in range(-most - 3, most + 4):
                    expected = tuple(sorted(found.get(number, [])))
                    self.assertEqual(strings_of(scheme, m, number), expected)
                    self.assertEqual(many_strings(scheme, m, number), len(expected))

    def test_each_number_of_the_range_has_a_string(self):
        for scheme in SCHEMES:
            for m in range(1, 4):
                most = greatest(scheme, m)
                for number in range(-most, most + 1):
                    self.assertGreater(many_strings(scheme, m, number), 0)

    def test_ends_of_the_range(self):
        for k, a in SCHEMES:
            for m in range(1, 7):
                most = greatest((k, a), m)
                self.assertEqual(strings_of((k, a), m, most), ((a,) * m,))
                self.assertEqual(strings_of((k, a), m, -most), ((-a,) * m,))
                self.assertEqual(many_strings((k, a), m, most), 1)
                self.assertEqual(many_strings((k, a), m, -most), 1)
                for beyond in (most + 1, -most - 1, 10 * most, -10 ** 39, 10 ** 39):
                    self.assertEqual(strings_of((k, a), m, beyond), ())
                    self.assertEqual(many_strings((k, a), m, beyond), 0)

    def test_six_digits_of_the_small_schemes(self):
        for scheme in ((1, 1), (2, 2)):
            counts = Counter(plain_value(scheme, string) for string in all_strings(scheme, 6))
            for number in counts:
                self.assertEqual(many_strings(scheme, 6, number), counts[number])

    def test_six_digits_of_all_schemes(self):
        for scheme in SCHEMES:
            for number in (0, 1, -1, 5, -77, 1234, -4000, 30000, -123456):
                strings = strings_of(scheme, 6, number)
                self.assertEqual(len(strings), many_strings(scheme, 6, number))
                self.assertEqual(strings, tuple(sorted(set(strings))))
                for string in strings:
                    self.assertEqual(len(string), 6)
                    self.assertEqual(value(scheme, string), number)

    def test_kinds_of_the_results(self):
        found = strings_of((2, 3), 2, 1)
        self.assertEqual(found, ((0, 1), (1, -3)))
        self.assertIs(type(found), tuple)
        for string in found:
            self.assertIs(type(string), tuple)
            self.assertEqual([type(digit) for digit in string], [int, int])
        for m, number in ((0, 0), (0, 1), (2, 1), (2, 99)):
            self.assertIs(type(strings_of((2, 3), m, number)), tuple)
            self.assertIs(type(many_strings((2, 3), m, number)), int)

    def test_wrong_m(self):
        for function in (strings_of, many_strings):
            for m in wrong_integers() + [-1, -10 ** 39]:
                for number in (0, 3, None, True, "3"):
                    with self.assertRaises(BadNumber) as caught:
                        function((2, 2), m, number)
                    self.assertIs(caught.exception.thing, m)

    def test_wrong_number(self):
        for function in (strings_of, many_strings):
            for m in (0, 1, 3):
                for number in wrong_integers():
                    with self.assertRaises(BadNumber) as caught:
                        function((2, 2), m, number)
                    self.assertIs(caught.exception.thing, number)

    def test_scheme_is_looked_at_first(self):
        for function in (strings_of, many_strings):
            for scheme in odd_values() + [(2, 1), (0, 0)]:
                for m, number in ((2, 1), (-1, 1), (2, None), (None, None)):
                    with self.assertRaises(BadScheme) as caught:
                        function(scheme, m, number)
                    self.assertIs(caught.exception.thing, scheme)


if __name__ == "__main__":
    unittest.main()
