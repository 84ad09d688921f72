"""What calls tell of states and of each other (point 3)."""

from helpedcalls.checks import check_call, check_object, check_state
from helpedcalls.errors import BadPair
from helpedcalls.steps import call_rows, reached, start, step
from helpedcalls.values import same


def is_silent(thing, call):
    """Whether a call changes no state."""
    check_object(thing)
    check_call(thing, call)
    return all([step(thing, state, call)[0] == state for state in reached(thing)])


def commute(thing, state, one, other):
    """Whether two calls lead to the same state and have the same answers in both sequences."""
    check_object(thing)
    check_state(thing, state)
    check_call(thing, one)
    check_call(thing, other)
    return _commutes_at(thing, state, one, other)


def always_commute(thing, one, other):
    """Whether two calls commute at all states."""
    check_object(thing)
    check_call(thing, one)
    check_call(thing, other)
    return all([_commutes_at(thing, state, one, other) for state in reached(thing)])


def _commutes_at(thing, state, one, other):
    behind_one, one_ahead = step(thing, state, one)
    behind_other, other_ahead = step(thing, state, other)
    last, other_behind = step(thing, behind_one, other)
    other_last, one_behind = step(thing, behind_other, one)
    return last == other_last and same(one_ahead, one_behind) and same(other_ahead, other_behind)


def class_count(thing):
    """The greatest number of states of which each two are parted by some tuple of calls."""
    check_object(thing)
    classes = {state: 0 for state in reached(thing)}
    many = 1
    while True:
        classes, parted = _split(thing, classes)
        if parted == many:
            return many
        many = parted


def _split(thing, classes):
    """The classes parted by one more call ahead, as numbers for the states, and how many there are."""
    rows = call_rows(thing)
    numbers = {}
    parted = {}
    for state in classes:
        # No call answers both 1 and True, so answers that are equal as keys are the same.
        behind = [step(thing, state, call) for call in rows]
        mark = (classes[state], tuple([(answer, classes[reach]) for reach, answer in behind]))
        if mark not in numbers:
            numbers[mark] = len(numbers)
        parted[state] = numbers[mark]
    return (parted, len(numbers))


def parting(one, other):
    """The shortest tuple of calls, the first in order, that two objects answer unlike, None if there is none."""
    check_object(one)
    check_object(other)
    rows = call_rows(one)
    if rows != call_rows(other):
        raise BadPair()
    pairs = [(start(one), start(other))]
    paths = {pairs[0]: ()}
    at = 0
    # Pairs come by length, then by order of their paths: the first call that parts one ends the first such path.
    while at < len(pairs):
        pair = pairs[at]
        for call in rows:
            left, left_answer = step(one, pair[0], call)
            right, right_answer = step(other, pair[1], call)
            path = paths[pair] + (call,)
            if not same(left_answer, right_answer):
                return path
            if (left, right) not in paths:
                paths[(left, right)] = path
                pairs.append((left, right))
        at += 1
    return None


def alike(one, other):
    """Whether no tuple of calls parts two objects."""
    return parting(one, other) is None


def tellings(thing):
    """The triples of a state and two calls each of which has another answer there than behind the other one."""
    check_object(thing)
    rows = call_rows(thing)
    found = []
    for state in reached(thing):
        for at, one in enumerate(rows):
            for other in rows[at:]:
                if _tells(thing, state, one, other):
                    found.append((state, one, other))
    return found


def _tells(thing, state, one, other):
    behind_one, one_answer = step(thing, state, one)
    behind_other, other_answer = step(thing, state, other)
    if same(one_answer, step(thing, behind_other, one)[1]):
        return False
    return not same(other_answer, step(thing, behind_one, other)[1])


def can_tell(thing):
    """Whether some calls tell which of them came ahead."""
    return len(tellings(thing)) > 0
