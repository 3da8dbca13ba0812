"""The conventions of [0.2], for all functions at once."""

import inspect
import unittest
from copy import deepcopy

from quotientcells import (
    cells, convert, digits, errors, judge, logic, machines, numbers, rounding, runs, tables, texts,
    widths,
)
from samples import ONE_MACHINE, PAIR_MACHINE as PAIR, WRONG_MACHINE, odd_values, wrong_integers

LOOK = (0, 0, "one")

LOGIC = (1, (("-", 0),))
TEXT = "divider 1 1 0 0 one\nrow -4: -1 -1 -1 0 0 1 1 1"

# Of each function: its file, its parameters by name, and a call's arguments and result.
CALLS = {
    "is_scheme": (digits, ("thing",), ((2, 2),), True),
    "bound": (digits, ("scheme",), ((3, 4),), (4, 7)),
    "value": (digits, ("scheme", "string"), ((2, 2), (1, -2, 2)), 10),
    "greatest": (digits, ("scheme", "m"), ((2, 2), 3), 42),
    "strings_of": (digits, ("scheme", "m", "number"), ((1, 1), 2, 1), ((0, 1), (1, -1))),
    "many_strings": (digits, ("scheme", "m", "number"), ((1, 1), 2, 1), 2),
    "registers": (convert, ("scheme", "string"), ((2, 2), (1, -2)), ((0, 2), (0, 1))),
    "appended": (
        convert, ("scheme", "pair", "digit"), ((1, 1), ((0, 1), (0, 0)), -1),
        ((0, 0, 1), (0, 0, 0)),
    ),
    "is_look": (machines, ("thing",), (LOOK,), True),
    "is_machine": (machines, ("thing",), (ONE_MACHINE,), True),
    "is_operands": (machines, ("scheme", "kind", "thing"), ((1, 1), "one", (3, 5, 2)), True),
    "estimate": (machines, ("machine", "remainder", "d", "n"), (ONE_MACHINE, 3, 5, 2), (0, 1)),
    "selected": (machines, ("machine", "remainder", "d", "n"), (ONE_MACHINE, 3, 5, 2), 1),
    "reduced": (runs, ("u", "v", "z"), (6, 3, -5), (-2, 6)),
    "run": (runs, ("machine", "operands", "m"), (ONE_MACHINE, (3, 5, 2), 2), ((1, 0), 2)),
    "remainders": (runs, ("machine", "operands", "m"), (ONE_MACHINE, (3, 5, 2), 2), (3, 1, 2)),
    "is_in_bounds": (runs, ("scheme", "w", "d"), ((2, 2), 4, 5), False),
    "is_reached": (cells, ("scheme", "look", "cell"), ((1, 1), LOOK, (0, 3)), True),
    "reached": (cells, ("scheme", "look", "i"), ((1, 1), LOOK, 0), (-4, 3)),
    "judge_digit": (cells, ("scheme", "look", "cell", "digit"), ((1, 1), LOOK, (0, 0), 1), ("suits",)),
    "digit_holds": (
        cells, ("scheme", "look", "cell", "digit", "thing"),
        ((1, 1), LOOK, (0, 0), -1, ("operands", (1, 4, 2))), True,
    ),
    "suitable": (cells, ("scheme", "look", "cell"), ((1, 1), LOOK, (0, 0)), (0, 1)),
    "judge_machine": (judge, ("machine",), (ONE_MACHINE,), ("right",)),
    "machine_holds": (judge, ("machine", "thing"), (WRONG_MACHINE, ("errs", (3, 4, 2), 2)), True),
    "is_right": (judge, ("machine",), (WRONG_MACHINE,), False),
    "finished": (judge, ("machine", "operands", "m"), (ONE_MACHINE, (3, 5, 2), 4), (9, 3)),
    "choices": (
        tables, ("scheme", "look"), ((1, 1), LOOK),
        ((-4, ((-1,), (-1,), (-1,), (-1, 0), (0, 1), (1,), (1,), (1,))),),
    ),
    "make_machine": (tables, ("scheme", "look"), ((2, 2), LOOK), None),
    "many_machines": (tables, ("scheme", "look"), ((1, 1), LOOK), 4),
    "judge_look": (tables, ("scheme", "look"), ((1, 1), PAIR[1]), ("machine", PAIR)),
    "look_holds": (
        tables, ("scheme", "look", "thing"), ((1, 1), LOOK, ("machine", ONE_MACHINE)), True,
    ),
    "least_looks": (tables, ("scheme", "kind", "most"), ((2, 2), "one", 4), ((2, 3),)),
    "exact": (
        rounding, ("scheme", "kind", "operands", "m", "mode"),
        ((1, 1), "one", (-3, 5, 2), 4, "even"), -10,
    ),
    "divide": (
        rounding, ("machine", "operands", "m", "mode"), (ONE_MACHINE, (3, 5, 2), 4, "up"), 10,
    ),
    "rounded": (rounding, ("fraction", "mode"), ((5, 2), "even"), 2),
    "is_binary": (numbers, ("thing",), ((-3, 4),), True),
    "to_bits": (numbers, ("fraction", "p", "mode"), ((3, 5), 4, "even"), (5, -3)),
    "quotient": (
        numbers, ("machine", "one", "other", "p", "mode"),
        (ONE_MACHINE, (-3, 2), (5, -1), 4, "zero"), (-9, -1),
    ),
    "make_logic": (
        logic, ("machine",), (((1, 1), LOOK, ((-1, (1, 0)),)),), (1, (("1", 1), ("0", 0))),
    ),
    "is_logic": (logic, ("machine", "thing"), (ONE_MACHINE, LOGIC), True),
    "output": (logic, ("machine", "logic", "cell"), (ONE_MACHINE, LOGIC, (0, -1)), 0),
    "judge_logic": (logic, ("machine", "logic"), (((1, 1), LOOK, ((-1, (0,)),)), LOGIC), ("fits",)),
    "logic_holds": (
        logic, ("machine", "logic", "thing"), (ONE_MACHINE, LOGIC, ("cell", 0, 3)), True,
    ),
    "least_width": (widths, ("machine",), (WRONG_MACHINE,), 2),
    "bad_operands": (widths, ("machine", "n"), (WRONG_MACHINE, 2), ((4, 3), (5, 3))),
    "share": (widths, ("machine", "n"), (WRONG_MACHINE, 2), (1, 24)),
    "written": (texts, ("machine",), (ONE_MACHINE,), TEXT),
    "read": (texts, ("text",), (TEXT,), ONE_MACHINE),
}

# The errors of the parameters other than thing.
ERRORS = {
    "scheme": errors.BadScheme, "look": errors.BadLook, "machine": errors.BadMachine,
    "cell": errors.BadCell, "operands": errors.BadOperands, "mode": errors.BadMode,
    "string": errors.BadDigits, "pair": errors.BadDigits, "digit": errors.BadDigits,
    "m": errors.BadNumber, "number": errors.BadNumber, "kind": errors.BadNumber,
    "u": errors.BadNumber, "v": errors.BadNumber, "z": errors.BadNumber,
    "w": errors.BadNumber, "d": errors.BadNumber, "i": errors.BadNumber,
    "most": errors.BadNumber, "fraction": errors.BadNumber, "p": errors.BadNumber,
    "n": errors.BadNumber, "one": errors.BadNumber, "other": errors.BadNumber,
    "logic": errors.BadLogic,
}

# These two have one error for all that stands behind the machine.
SEEING = ("estimate", "selected")


def outcome(function, arguments):
    """What a call gives: its result, or its error's class and thing."""
    try:
        return ("result", function(*arguments))
    except errors.BadText as error:
        return (type(error), error.at)
    except errors.DividerError as error:
        return (type(error), error.thing)


class ConventionsTest(unittest.TestCase):
    def test_functions_are_defined_in_their_files(self):
        for name, (module, _, _, _) in CALLS.items():
            self.assertTrue(inspect.isfunction(getattr(module, name)))
            self.assertEqual(getattr(module, name).__module__, module.__name__)

    def test_parameters_by_position_and_by_name(self):
        for name, (module, parameters, arguments, result) in CALLS.items():
            function = getattr(module, name)
            self.assertEqual(tuple(inspect.signature(function).parameters), parameters)
            self.assertEqual(function(*arguments), result, name)
            self.assertEqual(function(**dict(zip(parameters, arguments))), result, name)

    def test_same_call_same_outcome(self):
        for name, (module, _, arguments, _) in CALLS.items():
            function = getattr(module, name)
            for _ in range(3):
                self.assertEqual(function(*arguments), function(*arguments))

    def expect(self, name, at, called):
        """Call a function whose argument at a place is the first one that is wrong."""
        module, parameters, _, _ = CALLS[name]
        found, thing = outcome(getattr(module, name), called)
        if name in SEEING and at > 0:
            self.assertIs(found, errors.BadOperands, (name, called))
            self.assertEqual(thing, called[1:])
            for one, other in zip(thing, called[1:]):
                self.assertIs(one, other)
        elif name == "read":
            # None of the wrong values has a first line.
            self.assertEqual((found, thing), (errors.BadText, 1 if isinstance(called[0], str) else 0))
        else:
            self.assertIs(found, ERRORS[parameters[at]], (name, called))
            self.assertIs(thing, called[at], (name, called))

    def test_first_parameters_accept_any_value(self):
        for name, (_, parameters, arguments, _) in CALLS.items():
            if parameters[0] == "thing":
                continue
            for wrong in odd_values() + wrong_integers() + ["x", (2, 6), (9, -4), ((1, 1), LOOK, ())]:
                self.expect(name, 0, (wrong,) + arguments[1:])
                self.expect(name, 0, (wrong,) + (None,) * (len(arguments) - 1))

    def test_looks_accept_any_value(self):
        for name, (_, parameters, arguments, _) in CALLS.items():
            if "look" not in parameters:
                continue
            for wrong in odd_values() + wrong_integers() + [3, (0, 0), (-1, 0, "one"), list(LOOK)]:
                self.expect(name, 1, (arguments[0], wrong) + arguments[2:])
                self.expect(name, 1, (arguments[0], wrong) + (None,) * (len(arguments) - 2))

    def test_first_wrong_argument_decides(self):
        for name, (_, parameters, arguments, _) in CALLS.items():
            for at, parameter in enumerate(parameters):
                if parameter == "thing":
                    continue
                for wrong in (None, True, "1", [1], [], {}, (True, None)):
                    rest = len(parameters) - at - 1
                    self.expect(name, at, arguments[:at] + (wrong,) + arguments[at + 1:])
                    self.expect(name, at, arguments[:at] + (wrong,) + (False,) * rest)

    def test_things_are_judged_without_errors(self):
        for name, (module, parameters, arguments, _) in CALLS.items():
            if parameters[-1] != "thing":
                continue
            for thing in odd_values() + wrong_integers():
                right = name == "is_binary" and thing == (3, 0)
                self.assertIs(getattr(module, name)(*arguments[:-1], thing), right)

    def test_arguments_are_not_changed(self):
        for name, (module, parameters, arguments, _) in CALLS.items():
            function = getattr(module, name)
            for at in range(len(parameters)):
                for other in odd_values() + [[1, -1], [[0], [1]], {0: [1]}]:
                    called = arguments[:at] + (other,) + arguments[at + 1:]
                    before = deepcopy(called)
                    outcome(function, called)
                    self.assertEqual(called, before, name)

    def test_a_failed_call_changes_nothing(self):
        for name, (module, parameters, arguments, result) in CALLS.items():
            function = getattr(module, name)
            for at in range(len(parameters)):
                outcome(function, arguments[:at] + ([None],) + arguments[at + 1:])
                self.assertEqual(function(*arguments), result, name)

    def test_deep_and_long_values(self):
        deep = [1]
        for _ in range(15):
            deep = [deep]
        long = (1,) * 1999
        for thing in (deep, long, "a" * 3000, 10 ** 39, {"a": deep}):
            for function in (digits.is_scheme, machines.is_look, machines.is_machine):
                self.assertIs(function(thing), False)
            self.assertIs(machines.is_operands((1, 1), "one", thing), False)
            self.assertIs(cells.digit_holds((1, 1), LOOK, (0, 0), 1, thing), False)
            self.assertIs(judge.machine_holds(ONE_MACHINE, thing), False)
            self.assertIs(tables.look_holds((1, 1), LOOK, thing), False)
            self.assertIs(numbers.is_binary(thing), False)
            self.assertIs(logic.is_logic(ONE_MACHINE, thing), False)
            self.assertIs(logic.logic_holds(ONE_MACHINE, LOGIC, thing), False)
            for function, rest, error in (
                (convert.registers, ((),), errors.BadScheme),
                (runs.run, ((3, 5, 2), 2), errors.BadMachine),
                (machines.estimate, (3, 5, 2), errors.BadMachine),
                (cells.suitable, (LOOK, (0, 0)), errors.BadScheme),
                (tables.choices, (LOOK,), errors.BadScheme),
                (judge.is_right, (), errors.BadMachine),
                (numbers.quotient, ((3, 0), (5, 0), 4, "up"), errors.BadMachine),
                (widths.share, (2,), errors.BadMachine),
                (texts.written, (), errors.BadMachine),
                (rounding.rounded, ("up",), errors.BadNumber),
            ):
                self.assertEqual(outcome(function, (thing,) + rest), (error, thing))


if __name__ == "__main__":
    unittest.main()
