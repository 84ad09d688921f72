"""Histories of several objects and their orders (point 6)."""

from helpedcalls.errors import BadOrders
from helpedcalls.events import check_things, check_wide_history, has_wide_history, narrowed, spans_in, widened
from helpedcalls.orders import ahead_of_each, find_order, is_order, is_order_or_none, own_before_each


def is_wide_history(things, value):
    """Whether any value is a history of several objects."""
    check_things(things)
    return has_wide_history(things, value)


def parts(things, history):
    """The tuple of the histories of the single objects."""
    _check(things, history)
    return _all_parts(things, history)


def _check(things, history):
    check_things(things)
    check_wide_history(things, history)


def _all_parts(things, history):
    return tuple([narrowed(history, place) for place in range(len(things))])


def woven(things, history, orders):
    """An order that explains the whole and keeps an order for each object."""
    _check(things, history)
    if not isinstance(orders, tuple) or len(orders) != len(things):
        raise BadOrders()
    for thing, part, order in zip(things, _all_parts(things, history), orders):
        spans = spans_in(widened(part))
        if not is_order((thing,), spans, ahead_of_each(spans), order):
            raise BadOrders()
    return _weave(things, spans_in(history), orders)


def _weave(things, spans, orders):
    """Takes the calls from the orders, each as soon as all that are ahead of it are taken.

    Some call can always be taken: no ring is made of calls that are ahead of others and calls that stand before
    others in the order of an object.
    """
    needs = ahead_of_each(spans)
    rows = [_numbers(spans, place, orders[place]) for place in range(len(things))]
    taken = []
    held = 0
    while any([len(row) > 0 for row in rows]):
        ready = [row for row in rows if len(row) > 0 and (held & needs[row[0]]) == needs[row[0]]]
        at = ready[0].pop(0)
        taken.append(at)
        held = held | (1 << at)
    return tuple(taken)


def _numbers(spans, place, order):
    """The numbers in the whole history of the calls in the order of an object."""
    own = [at for at, span in enumerate(spans) if span.place == place]
    return [own[at] for at in order]


def explained_all(things, history):
    """An order that explains the whole, None if there is none."""
    _check(things, history)
    orders = []
    for thing, part in zip(things, _all_parts(things, history)):
        spans = spans_in(widened(part))
        order = find_order((thing,), spans, ahead_of_each(spans))
        if order is None:
            return None
        orders.append(order)
    return _weave(things, spans_in(history), orders)


def shows_all(things, history, value):
    """Whether any value is an order that explains the whole, or None where there is none."""
    if value is None:
        return explained_all(things, history) is None
    _check(things, history)
    spans = spans_in(history)
    return is_order(things, spans, ahead_of_each(spans), value)


def in_step_all(things, history):
    """Whether an order gives the same answers, with the calls of each thread in their sequence."""
    _check(things, history)
    spans = spans_in(history)
    return find_order(things, spans, own_before_each(spans)) is not None
