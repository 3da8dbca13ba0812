"""The conventions of [0.2], for all functions at once."""

import inspect
import unittest
from copy import deepcopy

from quotientcells import convert, digits, errors
from samples import odd_values, wrong_integers

# Of each function: its file, its parameters by name, and a call's arguments and result.
CALLS = {
    "is_scheme": (digits, ("thing",), ((2, 2),), True),
    "bound": (digits, ("scheme",), ((3, 4),), (4, 7)),
    "value": (digits, ("scheme", "string"), ((2, 2), (1, -2, 2)), 10),
    "greatest": (digits, ("scheme", "m"), ((2, 2), 3), 42),
    "strings_of": (digits, ("scheme", "m", "number"), ((1, 1), 2, 1), ((0, 1), (1, -1))),
    "many_strings": (digits, ("scheme", "m", "number"), ((1, 1), 2, 1), 2),
    "registers": (convert, ("scheme", "string"), ((2, 2), (1, -2)), ((0, 2), (0, 1))),
    "appended": (
        convert, ("scheme", "pair", "digit"), ((1, 1), ((0, 1), (0, 0)), -1),
        ((0, 0, 1), (0, 0, 0)),
    ),
}

# The errors of the parameters other than scheme and thing.
ERRORS = {
    "string": errors.BadDigits, "pair": errors.BadDigits, "digit": errors.BadDigits,
    "m": errors.BadNumber, "number": errors.BadNumber,
}


def outcome(function, arguments):
    """What a call gives: its result, or its error's class and thing."""
    try:
        return ("result", function(*arguments))
    except errors.DividerError as error:
        return (type(error), error.thing)


class ConventionsTest(unittest.TestCase):
    def test_functions_are_defined_in_their_files(self):
        for name, (module, _, _, _) in CALLS.items():
            self.assertTrue(inspect.isfunction(getattr(module, name)))
            self.assertEqual(getattr(module, name).__module__, module.__name__)

    def test_parameters_by_position_and_by_name(self):
        for name, (module, parameters, arguments, result) in CALLS.items():
            function = getattr(module, name)
            self.assertEqual(tuple(inspect.signature(function).parameters), parameters)
            self.assertEqual(function(*arguments), result, name)
            self.assertEqual(function(**dict(zip(parameters, arguments))), result, name)

    def test_same_call_same_outcome(self):
        for name, (module, _, arguments, _) in CALLS.items():
            function = getattr(module, name)
            for _ in range(3):
                self.assertEqual(function(*arguments), function(*arguments))

    def test_scheme_accepts_any_value_and_is_first(self):
        for name, (module, parameters, arguments, _) in CALLS.items():
            if parameters[0] != "scheme":
                continue
            function = getattr(module, name)
            for scheme in odd_values() + wrong_integers() + [3, (2, 1), (4, 9)]:
                all_wrong = (scheme,) + (None,) * (len(arguments) - 1)
                for called in ((scheme,) + arguments[1:], all_wrong):
                    found, thing = outcome(function, called)
                    self.assertIs(found, errors.BadScheme, name)
                    self.assertIs(thing, scheme, name)

    def test_first_wrong_argument_decides(self):
        for name, (module, parameters, arguments, _) in CALLS.items():
            function = getattr(module, name)
            for at in range(1, len(parameters)):
                for wrong in (None, True, "1", [1], [], {}, (True, None)):
                    rest = len(parameters) - at - 1
                    one_wrong = arguments[:at] + (wrong,) + arguments[at + 1:]
                    rest_wrong = arguments[:at] + (wrong,) + (False,) * rest
                    for called in (one_wrong, rest_wrong):
                        found, thing = outcome(function, called)
                        self.assertIs(found, ERRORS[parameters[at]], (name, called))
                        self.assertIs(thing, wrong, (name, called))

    def test_arguments_are_not_changed(self):
        for name, (module, parameters, arguments, _) in CALLS.items():
            function = getattr(module, name)
            for at in range(len(parameters)):
                for other in odd_values() + [[1, -1], [[0], [1]], {0: [1]}]:
                    called = arguments[:at] + (other,) + arguments[at + 1:]
                    before = deepcopy(called)
                    outcome(function, called)
                    self.assertEqual(called, before, name)

    def test_a_failed_call_changes_nothing(self):
        for name, (module, parameters, arguments, result) in CALLS.items():
            function = getattr(module, name)
            for at in range(len(parameters)):
                outcome(function, arguments[:at] + ([None],) + arguments[at + 1:])
                self.assertEqual(function(*arguments), result, name)

    def test_deep_and_long_values(self):
        deep = [1]
        for _ in range(15):
            deep = [deep]
        long = (1,) * 1999
        for thing in (deep, long, "a" * 3000, 10 ** 39, {"a": deep}):
            self.assertIs(digits.is_scheme(thing), False)
            with self.assertRaises(errors.BadScheme) as caught:
                convert.registers(thing, ())
            self.assertIs(caught.exception.thing, thing)


if __name__ == "__main__":
    unittest.main()
