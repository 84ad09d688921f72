"""Which values have the form of an object, kind by kind."""

from helpedcalls.values import are_within, is_within


def _has_size(value):
    return len(value) == 2 and is_within(value[1], 2, 5)


def _has_room_and_size(value):
    return len(value) == 3 and is_within(value[1], 1, 3) and is_within(value[2], 1, 3)


def _has_amounts(value):
    return len(value) == 2 and are_within(value[1], 0, 5) and 2 <= len(value[1]) <= 3


def _is_pair(value, many):
    if not isinstance(value, tuple) or len(value) != 2:
        return False
    return is_within(value[0], 0, many - 1) and is_within(value[1], 0, 9)


def _is_row(value, many):
    if not isinstance(value, tuple) or not 1 <= len(value) <= 4:
        return False
    return all([_is_pair(pair, many) for pair in value])


def _has_rows(value):
    if len(value) != 2 or not isinstance(value[1], tuple):
        return False
    rows = value[1]
    if not 1 <= len(rows) <= 6 or not all([_is_row(row, len(rows)) for row in rows]):
        return False
    return all([len(row) == len(rows[0]) for row in rows])


_FORMS = {
    "counter": _has_size,
    "register": _has_size,
    "stack": _has_room_and_size,
    "queue": _has_room_and_size,
    "set": _has_size,
    "agree": _has_size,
    "bank": _has_amounts,
    "table": _has_rows,
}


def has_form(value):
    """Whether any value is an object."""
    # The kind is looked up only if it is a string, for other values may not be fit for a key.
    if not isinstance(value, tuple) or len(value) == 0 or not isinstance(value[0], str):
        return False
    if value[0] not in _FORMS:
        return False
    form = _FORMS[value[0]]
    return form(value)
