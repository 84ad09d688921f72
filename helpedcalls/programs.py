"""Programs for an object (point 11)."""

from helpedcalls.errors import BadProgram
from helpedcalls.reading import program_in


def is_program(thing, value):
    """Whether any value is a program for an object."""
    try:
        program_in(thing, value)
    except BadProgram:
        return False
    return True


def cell_count(thing, text):
    """The number of the cells of a program."""
    return len(program_in(thing, text).cells)


def method_names(thing, text):
    """The ascending tuple of the names of the methods of a program."""
    return tuple(sorted(program_in(thing, text).methods))
