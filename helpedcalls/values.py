"""What holds for values everywhere: integers, and when two values are the same."""


def is_integer(value):
    """Whether a value is an int that is no bool."""
    return isinstance(value, int) and not isinstance(value, bool)


def is_within(value, low, high):
    """Whether a value is an integer from low to high."""
    return is_integer(value) and low <= value <= high


def are_within(value, low, high):
    """Whether a value is a tuple of integers from low to high."""
    return isinstance(value, tuple) and all([is_within(part, low, high) for part in value])


def same(one, other):
    """Whether two values are equal and of the same kinds at every place: 1 is neither True nor 1.0."""
    if isinstance(one, tuple):
        if not isinstance(other, tuple) or len(one) != len(other):
            return False
        return all([same(left, right) for left, right in zip(one, other)])
    if one is None:
        return other is None
    if isinstance(one, bool):
        return isinstance(other, bool) and one == other
    if isinstance(one, int):
        return is_integer(other) and one == other
    return isinstance(one, str) and isinstance(other, str) and one == other
