"""Orders of the calls of a history: finding, counting and judging them.

The calls that stand in an order so far are the bits of a number, and so are those that must stand ahead of each call.
"""

from helpedcalls.steps import start, step
from helpedcalls.values import are_within, same


def ahead_of_each(spans):
    """For each call the calls that are ahead of it."""
    return [sum([1 << at for at, other in enumerate(spans) if _is_ahead(other, span)]) for span in spans]


def _is_ahead(one, other):
    return one.end is not None and one.end < other.begin


def own_before_each(spans):
    """For each call the calls that its thread began before it."""
    return [sum([1 << at for at, other in enumerate(spans) if _is_own_before(other, span)]) for span in spans]


def _is_own_before(one, other):
    return one.thread == other.thread and one.begin < other.begin


def _ended(spans):
    return sum([1 << at for at, span in enumerate(spans) if span.end is not None])


def _starts(things):
    return tuple([start(thing) for thing in things])


def _states_behind(things, states, span):
    """The states behind a call, None if it answers otherwise than the history says."""
    state, answer = step(things[span.place], states[span.place], span.call)
    if span.end is not None and not same(answer, span.answer):
        return None
    return states[:span.place] + (state,) + states[span.place + 1:]


def _can_stand(held, needed, at):
    return (held >> at) & 1 == 0 and (held & needed) == needed


def _following(things, spans, needs, node):
    """The pairs of a call that may stand next and what is held, with the states, behind it."""
    held, states = node
    found = []
    for at, span in enumerate(spans):
        if _can_stand(held, needs[at], at):
            behind = _states_behind(things, states, span)
            if behind is not None:
                found.append((at, (held | (1 << at), behind)))
    return found


def find_order(things, spans, needs):
    """An order that gives the answers of the history, with each call behind those that it needs; None if none does."""
    ended = _ended(spans)
    first = (0, _starts(things))
    paths = [(first, ())]
    met = {first: True}
    while len(paths) > 0:
        node, order = paths.pop()
        if (node[0] & ended) == ended:
            return order
        for at, behind in _following(things, spans, needs, node):
            if behind not in met:
                met[behind] = True
                paths.append((behind, order + (at,)))
    return None


def count_orders(things, spans, needs):
    """How many such orders there are."""
    ended = _ended(spans)
    total = 0
    # The orders of each length, as how many of them lead to each node.
    counts = {(0, _starts(things)): 1}
    while len(counts) > 0:
        longer = {}
        for node, many in counts.items():
            if (node[0] & ended) == ended:
                total += many
            for _, behind in _following(things, spans, needs, node):
                longer[behind] = longer.get(behind, 0) + many
        counts = longer
    return total


def is_order(things, spans, needs, value):
    """Whether any value is such an order."""
    if not are_within(value, 0, len(spans) - 1):
        return False
    held = 0
    states = _starts(things)
    for at in value:
        if not _can_stand(held, needs[at], at):
            return False
        states = _states_behind(things, states, spans[at])
        if states is None:
            return False
        held = held | (1 << at)
    ended = _ended(spans)
    return (held & ended) == ended


def is_order_or_none(things, spans, needs, value):
    """Whether any value is such an order, or None where there is none."""
    if value is None:
        return find_order(things, spans, needs) is None
    return is_order(things, spans, needs, value)
