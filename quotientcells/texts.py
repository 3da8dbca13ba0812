"""Machines written as texts, and read from them."""

from quotientcells.cells import is_part
from quotientcells.digits import is_scheme
from quotientcells.errors import BadText
from quotientcells.machines import is_look, is_machine, is_row, need_machine


def written(machine):
    """The text of a machine."""
    need_machine(machine)
    (k, a), (t, s, kind), table = machine
    lines = [f"divider {k} {a} {t} {s} {kind}"]
    for lowest, string in table:
        digits = " ".join([str(digit) for digit in string])
        lines.append(f"row {lowest}: {digits}")
    return "\n".join(lines)


def read(text):
    """The machine of a text."""
    if not isinstance(text, str):
        raise BadText(0)
    lines = text.split("\n")
    head = _read_head(lines[0])
    if head is None:
        raise BadText(1)
    scheme, look = head
    rows = []
    for i, line in enumerate(lines[1:]):
        row = _read_row(scheme, line)
        if row is None or not is_part(look, i):
            raise BadText(i + 2)
        rows.append(row)
    machine = (scheme, look, tuple(rows))
    # Each line fits, so all that can still be wrong is that rows are missing.
    if not is_machine(machine):
        raise BadText(len(lines) + 1)
    return machine


def _read_head(line):
    """The pair of the scheme and the look of a first line, None if it is not one."""
    words = line.split(" ")
    if len(words) != 6 or words[0] != "divider":
        return None
    k, a, t, s = [_read_integer(word) for word in words[1:5]]
    head = ((k, a), (t, s, words[5]))
    return head if is_scheme(head[0]) and is_look(head[1]) else None


def _read_row(scheme, line):
    """The row of a line, None if it is not the line of a row of the scheme."""
    words = line.split(" ")
    if len(words) < 3 or words[0] != "row" or not words[1].endswith(":"):
        return None
    row = (_read_integer(words[1][:-1]), tuple([_read_integer(word) for word in words[2:]]))
    return row if is_row(scheme, row) else None


def _read_integer(word):
    """The integer that Python writes as this word, None if there is none."""
    signs = word[1:] if word.startswith("-") else word
    if not signs or not all([sign in "0123456789" for sign in signs]):
        return None
    if signs[0] == "0" and word != "0":
        return None
    # Python refuses to read an integer of some thousands of digits at once.
    number = 0
    for sign in signs:
        number = number * 10 + int(sign)
    return number if signs == word else -number
