"""Histories of an object and their orders (points 4 and 5)."""

from helpedcalls.checks import check_object, has_call
from helpedcalls.errors import BadHistory
from helpedcalls.events import check_history, has_history, is_thread, spans_in, widened
from helpedcalls.judging import Judge
from helpedcalls.orders import ahead_of_each, count_orders, find_order, is_order_or_none, own_before_each
from helpedcalls.steps import run

MOST_PAIRS = 12


def is_history(thing, value):
    """Whether any value is a history of an object."""
    check_object(thing)
    return has_history(thing, value)


def spans(thing, history):
    """The tuple of (thread, call, begin, end) of the calls, end None for an open one."""
    return tuple([(span.thread, span.call, span.begin, span.end) for span in _checked_spans(thing, history)])


def _checked_spans(thing, history):
    check_object(thing)
    check_history(thing, history)
    return spans_in(widened(history))


def whole(thing, row):
    """The history of pairs (thread, call), each answered at once."""
    check_object(thing)
    if not isinstance(row, tuple) or len(row) > MOST_PAIRS:
        raise BadHistory(None)
    for at, pair in enumerate(row):
        if not _is_pair(thing, pair):
            raise BadHistory(at)
    events = []
    answers = run(thing, [call for _, call in row])[0]
    for (thread, call), answer in zip(row, answers):
        events.append(("call", thread, call))
        events.append(("answer", thread, answer))
    return tuple(events)


def _is_pair(thing, value):
    return isinstance(value, tuple) and len(value) == 2 and is_thread(value[0]) and has_call(thing, value[1])


def written(thing, history):
    """The text of a history, a line for each event."""
    check_object(thing)
    check_history(thing, history)
    return "".join([_line(event) for event in history])


def _line(event):
    word, thread, told = event
    if word == "call":
        words = " ".join([str(part) for part in told])
        return f"{thread} calls {words}\n"
    return f"{thread} hears {_answer_word(told)}\n"


def _answer_word(answer):
    if answer is None:
        return "none"
    if isinstance(answer, bool):
        return "true" if answer else "false"
    return str(answer)


def explained(thing, history):
    """An order that explains the history, None if there is none."""
    found = _checked_spans(thing, history)
    return find_order((thing,), found, ahead_of_each(found))


def shows_order(thing, history, value):
    """Whether any value is an order that explains the history, or None where there is none."""
    found = _checked_spans(thing, history)
    return is_order_or_none((thing,), found, ahead_of_each(found), value)


def order_count(thing, history):
    """How many orders explain the history."""
    found = _checked_spans(thing, history)
    return count_orders((thing,), found, ahead_of_each(found))


def first_wrong(thing, history):
    """The place of the event with which the shortest beginning ends that no order explains, None if there is none."""
    check_object(thing)
    check_history(thing, history)
    judge = Judge(thing)
    kept = judge.first()
    for at, event in enumerate(history):
        kept = judge.hear(kept, event)
        if len(kept) == 0:
            return at
    return None


def in_step(thing, history):
    """An order that gives the same answers, with the calls of each thread in their sequence, None if there is none."""
    found = _checked_spans(thing, history)
    return find_order((thing,), found, own_before_each(found))


def shows_in_step(thing, history, value):
    """Whether any value is an order that in_step can give, or None where there is none."""
    found = _checked_spans(thing, history)
    return is_order_or_none((thing,), found, own_before_each(found), value)
