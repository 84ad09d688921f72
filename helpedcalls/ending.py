"""Whether the calls of a program end, and rings in which they do not (point 13)."""

from helpedcalls.codes import code_standings
from helpedcalls.errors import BadPlans
from helpedcalls.rings import (
    each_ends_alone, everybody_hears, find_ring, shows_ring, silent_rows, somebody_hears, starving_rows,
)
from helpedcalls.values import is_within


def each_alone(thing, text, plans):
    """Whether each open call ends if its thread goes on alone, from each standing that is met."""
    return each_ends_alone(code_standings(thing, text, plans).moves)


def somebody(thing, text, plans):
    """Whether answers come again and again in every endless weaving."""
    return somebody_hears(code_standings(thing, text, plans).moves)


def everybody(thing, text, plans):
    """Whether each thread with steps again and again hears answers again and again in every endless weaving."""
    return everybody_hears(code_standings(thing, text, plans).moves)


def silent_ring(thing, text, plans):
    """A pair of a weaving and a round behind it in which no answer is heard, None if there is none."""
    moves = code_standings(thing, text, plans).moves
    return find_ring(moves, silent_rows(moves), None)


def starving_ring(thing, text, plans, thread):
    """A pair of a weaving and a round behind it in which a thread has a step and hears no answer, None if none is."""
    moves = _moves(thing, text, plans, thread)
    return find_ring(moves, starving_rows(moves, thread), thread)


def shows_silent(thing, text, plans, value):
    """Whether any value is a pair that silent_ring can give, or None where there is none."""
    moves = code_standings(thing, text, plans).moves
    return shows_ring(moves, silent_rows(moves), None, value)


def shows_starving(thing, text, plans, thread, value):
    """Whether any value is a pair that starving_ring can give, or None where there is none."""
    moves = _moves(thing, text, plans, thread)
    return shows_ring(moves, starving_rows(moves, thread), thread, value)


def _moves(thing, text, plans, thread):
    """The moves of all standings that are met; BadPlans for a value that is no thread of the plans."""
    moves = code_standings(thing, text, plans).moves
    if not is_within(thread, 0, len(plans) - 1):
        raise BadPlans()
    return moves
