import re
import unittest
from random import Random

from quotientcells.errors import BadMachine, BadText
from quotientcells.texts import read, written
from samples import (
    LOOKS, ONE_MACHINE, PAIR_MACHINE, SCHEMES, odd_values, outline_machine, wrong_integers,
)

NATURAL = "(0|[1-9][0-9]*)"
INTEGER = "(?:0|-?[1-9][0-9]*)"
HEAD = re.compile(f"divider ([123]) {NATURAL} {NATURAL} {NATURAL} (one|pair)")
ROW = re.compile(f"row {INTEGER}:((?: {INTEGER})+)")

TEXT = "divider 2 2 0 1 pair\nrow -3: -2 0 1\nrow 0: 2"


def first_wrong(text):
    """The line that BadText names, None for the text of a machine."""
    lines = text.split("\n")
    head = HEAD.fullmatch(lines[0])
    if not head or (int(head[1]), int(head[2])) not in SCHEMES:
        return 1
    a, s = int(head[2]), int(head[4])
    for at, line in enumerate(lines[1:], 2):
        row = ROW.fullmatch(line)
        many = at - 1
        if not row or any(abs(int(digit)) > a for digit in row[1].split()):
            return at
        if s < 20 and many > 2 ** s:
            return at
    return len(lines) + 1 if s >= 20 or len(lines) - 1 < 2 ** s else None


class WrittenTest(unittest.TestCase):
    def test_examples(self):
        self.assertEqual(written(ONE_MACHINE), "divider 1 1 0 0 one\nrow -4: -1 -1 -1 0 0 1 1 1")
        self.assertEqual(read(written(ONE_MACHINE)), ONE_MACHINE)

    def test_lines(self):
        machine = ((2, 2), (0, 1, "pair"), ((-3, (-2, 0, 1)), (0, (2,))))
        self.assertEqual(written(machine), TEXT)
        machine = ((3, 7), (10, 0, "one"), ((2100, (-7, 7)),))
        self.assertEqual(written(machine), "divider 3 7 10 0 one\nrow 2100: -7 7")

    def test_written_and_read_back(self):
        for scheme in SCHEMES:
            for look in LOOKS:
                machine = outline_machine(scheme, look)
                text = written(machine)
                self.assertIs(first_wrong(text), None)
                self.assertEqual(read(text), machine)
                self.assertEqual(written(read(text)), text)

    def test_ends_of_the_limits(self):
        for machine in (
            ((3, 7), (4, 2, "pair"), ((-2100, (-7, 7) * 300),) * 4),
            ((1, 1), (2, 4, "one"), tuple((i - 8, (i % 3 - 1,)) for i in range(16))),
            ((2, 3), (0, 0, "one"), ((2100, (0,) * 600),)),
        ):
            self.assertEqual(read(written(machine)), machine)

    def test_wrong_machines(self):
        for machine in odd_values() + wrong_integers() + [ONE_MACHINE[:2], list(ONE_MACHINE), TEXT]:
            with self.assertRaises(BadMachine) as caught:
                written(machine)
            self.assertIs(caught.exception.thing, machine)


class ReadTest(unittest.TestCase):
    def expect(self, text, at):
        with self.assertRaises(BadText) as caught:
            read(text)
        self.assertEqual((caught.exception.at, type(caught.exception.at)), (at, int), text)

    def check(self, text):
        """Compare what is read, or the line that is wrong, with the form of a text."""
        at = first_wrong(text)
        if at is None:
            self.assertEqual(written(read(text)), text)
        else:
            self.expect(text, at)

    def test_examples(self):
        self.expect("divider 2 2 0 1 pair\nrow 0: 3", 2)
        self.expect("divider 2 2 0 1 pair\nrow 0: 2", 3)

    def test_kinds_of_the_results(self):
        scheme, look, table = read(TEXT)
        self.assertEqual((scheme, look, table), ((2, 2), (0, 1, "pair"), ((-3, (-2, 0, 1)), (0, (2,)))))
        parts = [scheme, look, table, table[0], table[0][1]]
        self.assertEqual([type(part) for part in parts], [tuple] * 5)
        self.assertEqual([type(number) for number in scheme + look[:2] + table[0][1]], [int] * 7)

    def test_no_strings(self):
        for text in odd_values() + wrong_integers() + [list(TEXT), (TEXT,), ONE_MACHINE, PAIR_MACHINE]:
            if not isinstance(text, str):
                self.expect(text, 0)

    def test_other_strings(self):
        for text in ("", " ", "\n", "\n\n", "divider", "x", "~" * 3000, "row 0: 1", "\n" + TEXT, " " + TEXT):
            self.expect(text, 1)

    def test_first_lines(self):
        for head in (
            "divider 2 2 0 1", "divider 2 2 0 1 pair ", " divider 2 2 0 1 pair", "divider  2 2 0 1 pair",
            "divider 2 2 0 1  pair", "Divider 2 2 0 1 pair", "divide 2 2 0 1 pair", "divider 2 2 0 1 two",
            "divider 2 2 0 1 Pair", "divider 2 2 0 1 pair one", "divider 02 2 0 1 pair",
            "divider 2 +2 0 1 pair", "divider 2 2 -0 1 pair", "divider 2 2 00 1 pair",
            "divider 2 2 0 01 pair", "divider 2 2 -1 1 pair", "divider 2 2 0 -1 pair", "divider 2 1 0 1 pair",
            "divider 2 4 0 1 pair", "divider 4 8 0 1 pair", "divider 0 1 0 1 pair", "divider 1 2 0 1 pair",
            "divider 2 2 0 1_0 pair", "divider 2 2 0 1. pair", "divider 2 2 0x0 1 pair", "divider 2 2 0 1:pair",
            "divider\t2 2 0 1 pair", "divider 2 2 0 1 pair\r", "divider2 2 0 1 pair", "divider 2 2  1 pair",
            "divider 2 2 0 one 1", "divider 2 2 0 \u0661 pair", "divider 2 2 0 \xb2 pair", "divider two 2 0 1 pair",
            "divider - 2 0 1 pair", "divider 2 2 0 - pair", "divider 2 2 0 1 ", "divider 9999 9 0 1 pair",
        ):
            for text in (head, head + "\nrow -3: -2 0 1\nrow 0: 2", head + "\nx"):
                self.expect(text, 1)

    def test_rows(self):
        for row in (
            "", " ", "row", "row 0", "row 0:", "row 0: ", "row 0:2", "row 0 : 2", "row  0: 2", "row 0:  2",
            "row 0: 2 ", " row 0: 2", "row 0: 2  1", "Row 0: 2", "rows 0: 2", "row 0; 2", "row 00: 2",
            "row -0: 2", "row +1: 2", "row 01: 2", "row 1_0: 2", "row 0: 02", "row 0: -0", "row 0: +2",
            "row 0: 3", "row 0: -3", "row 0: 2,1", "row 0: 2\t1", "row 0: x", "row : 2", "row 0: 2:",
            "row 0:: 2", "row x: 2", "row 0: 0x1", "row 0: 1.0", "row 0: 2\r", "row 0: 2\x0b", "row --1: 2",
            "row 0: --1", "row -: 2", "row 0: -", "row: 0 2", "row 0: None", "row 0: True", "2", "row 1-1: 2",
            "row 0: \u0661", "row \xb9: 1", "divider 2 2 0 1 pair", "row 0: 2\x852", "row 0: 2\u20282",
        ):
            head, first, second = TEXT.split("\n")
            self.expect("\n".join((head, row)), 2)
            self.expect("\n".join((head, row, second)), 2)
            self.expect("\n".join((head, first, row)), 3)
            self.expect("\n".join((head, row, row)), 2)
            self.expect("\n".join((head, first, second, row)), 4)

    def test_one_line_feed_more_or_less(self):
        head, first, second = TEXT.split("\n")
        self.expect(TEXT + "\n", 4)
        self.expect("\n" + TEXT, 1)
        self.expect(head + "\n\n" + first + "\n" + second, 2)
        self.expect(head + "\n" + first + "\n\n" + second, 3)
        self.expect(head + " " + first + "\n" + second, 1)
        self.expect(head + "\n" + first + second, 2)
        self.expect(head + "\n" + first + " " + second, 2)
        self.expect(TEXT.replace("\n", "\r\n"), 1)
        self.expect(TEXT.replace("\n", "\r"), 1)

    def test_numbers_of_rows(self):
        row = "row 0: 1"
        for s in range(5):
            for many in range(2 ** s + 3):
                text = "\n".join([f"divider 2 2 1 {s} one"] + [row] * many)
                if many == 2 ** s:
                    self.assertEqual(read(text), ((2, 2), (1, s, "one"), ((0, (1,)),) * many))
                else:
                    self.expect(text, many + 2 if many < 2 ** s else 2 ** s + 2)

    def test_very_many_rows_are_asked_for(self):
        for s in ("30", "64", "1" * 40, "9" * 2900, "1" + "0" * 19000):
            head = f"divider 1 1 0 {s} one"
            self.expect(head, 2)
            self.expect(head + "\nrow 0: 1", 3)
            self.expect(head + "\nrow 0: 1\nrow 0: 1\nrow 0: 2", 4)
            self.expect(head + "\n" * 50, 2)
        self.expect("divider 1 1 0 40 one" + "\nrow 0: 1" * 2000, 2002)

    def test_great_numbers(self):
        for digits in ("1" * 40, "7" * 2900, "1" * 19000):
            for text, at in (
                (f"divider {digits} 1 0 0 one\nrow 0: 1", 1), (f"divider 1 {digits} 0 0 one\nrow 0: 1", 1),
                (f"divider 1 1 0 0 one\nrow 0: {digits}", 2), (f"divider 1 1 0 0 one\nrow 0: -{digits}", 2),
                (f"divider 1 1 0 0 one\nrow 0: 0{digits}", 2), (f"divider 1 1 0 0 one\nrow -{digits}: 2", 2),
                (f"divider 1 1 {digits} 1 one\nrow {digits}: 0", 3),
            ):
                self.expect(text, at)
        machine = ((1, 1), (0, 0, "one"), ((-10 ** 39 + 1, (1,)),))
        self.assertEqual(read(written(machine)), machine)

    def test_one_sign_more_less_or_otherwise(self):
        wrong = 0
        for text in (TEXT, written(ONE_MACHINE), "divider 3 4 1 0 one\nrow 10: 0 -4 4"):
            for at in range(len(text) + 1):
                for sign in " -:01234x\n":
                    for changed in (text[:at] + sign + text[at:], text[:at] + sign + text[at + 1:]):
                        self.check(changed)
                        wrong += first_wrong(changed) is not None
                self.check(text[:at] + text[at + 1:])
                self.check(text[:at])
                self.check(text[at:])
        self.assertGreater(wrong, 1500)

    def test_one_word_or_line_more_less_or_otherwise(self):
        chosen = Random(1)
        for _ in range(1500):
            lines = [line.split(" ") for line in TEXT.split("\n")]
            for _ in range(chosen.randint(1, 2)):
                line = chosen.choice(lines)
                at = chosen.randrange(len(line) + 1)
                word = chosen.choice(["row", "divider", "0", "1", "-1", "2", "3", "0:", "5:", "pair", "one", ""])
                line[at:at + chosen.randint(0, 1)] = [word] * chosen.randint(0, 1)
                if chosen.randrange(4) == 0:
                    at = chosen.randrange(len(lines))
                    lines[at:at + 1] = [list(lines[at])] * chosen.choice((0, 2)) or [["row", "1:", "0"]]
            self.check("\n".join(" ".join(line) for line in lines))


if __name__ == "__main__":
    unittest.main()
