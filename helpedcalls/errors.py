"""The errors of the package, those of later stages too."""


class SharedError(ValueError):
    """The base of all errors of the package."""


class BadObject(SharedError):
    """A value that is no object, or no tuple of objects, stands where one is taken."""


class BadCall(SharedError):
    """A value that is no call of the object, or no tuple of its calls, stands where one is taken."""


class BadState(SharedError):
    """A value that is no state of the object stands where one is taken."""


class BadPair(SharedError):
    """The two objects do not have the same calls."""


class BadHistory(SharedError):
    """A value that is no history; index is the place of the first wrong event, None if it has no places."""

    def __init__(self, index):
        self.index = index


class BadPlans(SharedError):
    """A value that is no plans, or not of the kind or number that is taken."""


class BadWeaving(SharedError):
    """A value that is no weaving; index is the place of the first thread without a step, None if it has no places."""

    def __init__(self, index):
        self.index = index


class BadProgram(SharedError):
    """A value that is no program for the object; line is the first wrong line, None if it is none of them."""

    def __init__(self, line):
        self.line = line


class BadOrders(SharedError):
    """A value that is no tuple of orders, each of which explains its part."""


class TooMany(SharedError):
    """There are more standings than are looked through; most is how many these are."""

    def __init__(self, most):
        self.most = most
