"""What is no object, no call or no state raises the error of that name."""

from helpedcalls.errors import BadCall, BadObject, BadState
from helpedcalls.forms import has_form
from helpedcalls.steps import call_rows, reached
from helpedcalls.values import are_within, is_within, same


def has_call(thing, value):
    """Whether any value is a call of an object."""
    return any([same(call, value) for call in call_rows(thing)])


def has_state(thing, value):
    """Whether any value is one of the states that come from the first one."""
    # All states of the kinds but tables are told by their form, without a search through hundreds of them.
    kind = thing[0]
    if kind in ("counter", "register"):
        return is_within(value, 0, thing[1] - 1)
    if kind == "agree":
        return value is None or is_within(value, 0, thing[1] - 1)
    if kind in ("stack", "queue"):
        return are_within(value, 0, thing[2] - 1) and len(value) <= thing[1]
    if kind == "set":
        return are_within(value, 0, thing[1] - 1) and _is_ascending(value)
    if kind == "bank":
        total = sum(thing[1])
        # A move of 1 leads to each neighbour, so every parting of the total comes.
        return are_within(value, 0, total) and len(value) == len(thing[1]) and sum(value) == total
    return any([same(state, value) for state in reached(thing)])


def _is_ascending(row):
    return all([row[k] < row[k + 1] for k in range(len(row) - 1)])


def check_object(value):
    """BadObject for a value that is no object."""
    if not has_form(value):
        raise BadObject()


def check_call(thing, value):
    """BadCall for a value that is no call of the object."""
    if not has_call(thing, value):
        raise BadCall()


def check_calls(thing, value):
    """BadCall for a value that is no tuple of calls of the object."""
    if not isinstance(value, tuple):
        raise BadCall()
    for call in value:
        check_call(thing, call)


def check_state(thing, value):
    """BadState for a value that is no state of the object."""
    if not has_state(thing, value):
        raise BadState()
