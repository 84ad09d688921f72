"""Objects: their calls, their states, and what a call does (point 2)."""

from helpedcalls.checks import check_call, check_calls, check_object, check_state, has_call
from helpedcalls.forms import has_form
from helpedcalls.steps import call_rows, reached, run, start, step


def is_object(value):
    """Whether any value is an object."""
    return has_form(value)


def calls(thing):
    """The ascending tuple of the calls of an object."""
    check_object(thing)
    return tuple(call_rows(thing))


def is_call(thing, value):
    """Whether any value is a call of an object."""
    check_object(thing)
    return has_call(thing, value)


def first_state(thing):
    """The first state of an object."""
    check_object(thing)
    return start(thing)


def states(thing):
    """The tuple of all states that come from the first one, in the order of their coming."""
    check_object(thing)
    return tuple(reached(thing))


def applied(thing, state, call):
    """The pair of the state behind a call at a state, and its answer."""
    check_object(thing)
    check_state(thing, state)
    check_call(thing, call)
    return step(thing, state, call)


def replayed(thing, row):
    """The pair of the tuple of the answers and the last state, of calls from the first state on."""
    check_object(thing)
    check_calls(thing, row)
    return run(thing, row)
