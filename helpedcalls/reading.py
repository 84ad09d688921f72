"""Reading the texts of programs (point 11)."""

from helpedcalls.checks import check_object
from helpedcalls.errors import BadProgram
from helpedcalls.methods import Method, wrong_line
from helpedcalls.steps import call_rows
from helpedcalls.words import first_values, method_name, row_of

MOST_LINES = 60


class Program:
    """The first values of the cells, and the methods by their names."""

    def __init__(self, cells, methods):
        self.cells = cells
        self.methods = methods


def program_in(thing, value):
    """The program that a text tells; the error of the first wrong argument, or of the first wrong line."""
    check_object(thing)
    if not isinstance(value, str):
        raise BadProgram(None)
    lines = value.split("\n")
    if len(lines) > MOST_LINES:
        raise BadProgram(MOST_LINES)
    cells = first_values(lines[0])
    if cells is None:
        raise BadProgram(0)
    methods = _methods_in(lines)
    for method in methods.values():
        at = wrong_line(method)
        if at is not None:
            raise BadProgram(at)
    if not all([call[0] in methods for call in call_rows(thing)]):
        raise BadProgram(None)
    return Program(cells, methods)


def _methods_in(lines):
    """The methods by their names, as they stand; BadProgram for the first line that can be none of theirs."""
    methods = {}
    latest = None
    for at in range(1, len(lines)):
        name = method_name(lines[at])
        row = row_of(lines[at])
        if name is not None and name not in methods:
            latest = Method(at)
            methods[name] = latest
        elif row is not None and latest is not None:
            latest.take(row)
        else:
            raise BadProgram(at)
    return methods
