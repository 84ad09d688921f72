"""Objects and odd values that several test files use."""



class EqualToAll:
    """A value of another kind that says of every value that it is equal."""

    def __eq__(self, other):
        return True

    __hash__ = None


LOOP = ((0, 0),)
EDGE_TABLE = ("table", tuple((((row + 1) % 6, row), (0, 9), (row, 0), (5, 1)) for row in range(6)))
HIDDEN_ROW = ("table", (((1, 0), (0, 0)), ((0, 0), (1, 1)), ((2, 5), (0, 5))))

SMALLEST = [
    ("counter", 2), ("register", 2), ("stack", 1, 1), ("queue", 1, 1), ("set", 2), ("agree", 2),
    ("bank", (0, 0)), ("table", (((0, 0),),)),
]
GREATEST = [
    ("counter", 5), ("register", 5), ("stack", 3, 3), ("queue", 3, 3), ("set", 5), ("agree", 5),
    ("bank", (5, 5, 5)), EDGE_TABLE,
]
BETWEEN = [
    ("counter", 3), ("register", 4), ("stack", 1, 3), ("stack", 3, 1), ("queue", 2, 2), ("set", 3), ("agree", 3),
    ("bank", (2, 0)), ("bank", (0, 3, 1)), HIDDEN_ROW,
]
OBJECTS = SMALLEST + BETWEEN + GREATEST

BEYOND = [
    ("counter", 1), ("counter", 6), ("register", 1), ("register", 6), ("set", 1), ("set", 6), ("agree", 1),
    ("agree", 6), ("stack", 0, 1), ("stack", 4, 1), ("stack", 1, 0), ("stack", 1, 4), ("queue", 0, 1),
    ("queue", 4, 1), ("queue", 1, 0), ("queue", 1, 4), ("bank", (0,)), ("bank", (0, 0, 0, 0)), ("bank", ()),
    ("bank", (-1, 0)), ("bank", (0, 6)), ("bank", (5, 5, 6)), ("table", ()), ("table", (LOOP,) * 7),
    ("table", ((),)), ("table", (((0, 0),) * 5,)), ("table", (((-1, 0),),)), ("table", (((1, 0),),)),
    ("table", (((0, -1),),)), ("table", (((0, 10),),)), ("table", (LOOP, LOOP * 2)), ("table", (LOOP * 2, LOOP)),
    ("table", (((2, 0),), ((0, 0),))), ("table", (((0, 0), (0, 10)),)), ("table", (((0, 10), (0, 0)),)),
    ("table", (LOOP, ((2, 0),))), ("table", (((2, 0),), LOOP)),
]

WRONG_KINDS = [
    ["counter", 3], ("counter", True), ("counter", 3.0), ("counter", "3"), ("counter", None), ("counter", (3,)),
    ("counter", [3]), ("counter",), ("counter", 3, 3), ("Counter", 3), ("", 3), (3, "counter"), ("register", True),
    ("register",), ("register", 2, 2), ("stack", 1), ("stack", 1, 1, 1), ("stack", True, 1), ("stack", 1, True),
    ["stack", 1, 1], ("queue", 2), ("queue", True, 2), ("queue", 2, True), ("queue", 2, 2, 2), ("set", True),
    ("set", {2}), ("set",), ("agree", True), ("agree", 2, None), ("agree",), ("bank", [2, 0]), ("bank", (2, True)),
    ("bank", (False, 0)), ("bank", 2, 0), ("bank", (2.0, 0)), ("bank", ((2, 0),)), ("bank", 2), ("bank",),
    ("table", [LOOP]), ("table", ([(0, 0)],)), ("table", (([0, 0],),)), ("table", (((0, 0, 0),),)),
    ("table", (((0,),),)), ("table", (((False, 0),),)), ("table", (((0, True),),)), ("table", (((0, None),),)),
    ("table", (((None, 0),),)), ("table", ((0, 0),)), ("table", (0,)), ("table", 1), ("table",), ("table", (LOOP,), 1),
    ("heap", 2), ([], 3), ({}, 3), ((), 3), (None, 3), (True, 3), (b"counter", 3),
]

OTHER_VALUES = [
    None, True, False, 0, 1, -1, 10 ** 40, 1.0, "", "counter", b"counter", (), ((),), [], {}, set(), frozenset(),
    object(), EqualToAll(), (EqualToAll(),), ("counter", EqualToAll()), len, int, range(2), ("do", 0), [("do", 0)],
]

NO_OBJECTS = BEYOND + WRONG_KINDS + OTHER_VALUES
