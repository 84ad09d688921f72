"""Doing the rows of methods (point 12). Nothing is checked here.

The registers are the tuple of their values from a to z.
"""

from helpedcalls.words import LETTERS, value_of


def begun(method, call):
    """What shared row of its method a call does first, and the registers then."""
    told = call[1:]
    return done_alone(method, 0, told + (None,) * (len(LETTERS) - len(told)))


def done_alone(method, at, registers):
    """The place of the next shared row from a place on, and the registers there."""
    while not method.is_shared(at):
        row = method.rows[at]
        if row[0] == "set":
            registers = _put(registers, row[1], _worth(registers, row[2:]))
        at = method.goal(at) if _goes(registers, row) else at + 1
    return (at, registers)


def done_shared(row, cells, registers):
    """The cells and the registers behind a shared row that is no answer."""
    if row[0] == "write":
        return (_with_cell(cells, _value(registers, row[1]), _worth(registers, row[2:])), registers)
    at = _value(registers, row[2])
    is_there = at is not None and at < len(cells)
    if row[0] == "read":
        return (cells, _put(registers, row[1], cells[at] if is_there else None))
    old, new = _value(registers, row[3]), _value(registers, row[4])
    if is_there and cells[at] == old:
        return (_with_cell(cells, at, new), _put(registers, row[1], 1))
    return (cells, _put(registers, row[1], 0))


def answered(row, registers):
    """The value of an answer."""
    if row[1] in ("yes", "no"):
        return row[1] == "yes"
    return _value(registers, row[1])


def _value(registers, atom):
    if atom in LETTERS:
        return registers[LETTERS.index(atom)]
    return value_of(atom)


def _worth(registers, words):
    values = [_value(registers, atom) for atom in words[::2]]
    if None in values:
        return None
    if len(values) == 1:
        return values[0]
    one, other = values
    return (one + other) % 10 if words[1] == "+" else (one - other) % 10


def _put(registers, letter, value):
    at = LETTERS.index(letter)
    return registers[:at] + (value,) + registers[at + 1:]


def _with_cell(cells, at, value):
    if at is None or at >= len(cells):
        return cells
    return cells[:at] + (value,) + cells[at + 1:]


def _goes(registers, row):
    """Whether a row leads to its label."""
    if row[0] != "if":
        return row[0] == "go"
    _, left, sign, right = row[:4]
    one, other = _value(registers, left), _value(registers, right)
    if sign == "=":
        return one == other
    return one is not None and other is not None and one < other
