"""The whole program: every function of the interface with fitting arguments, and with wrong ones in each place."""

import ast
import copy
import importlib
import itertools
import pathlib
import unittest

from helpedcalls.errors import (
    BadCall, BadHistory, BadObject, BadOrders, BadPair, BadPlans, BadProgram, BadState, BadWeaving, SharedError,
)
from helpedcalls.values import same
from tests.examples import NO_OBJECTS, OTHER_VALUES
from tests.texts import SAMPLES, made

PACKAGE = pathlib.Path(__file__).resolve().parent.parent / "helpedcalls"
THING = ("counter", 2)
ADD, LOOK = ("add", 1), ("look",)
HISTORY = (("call", 0, ADD), ("call", 1, LOOK), ("answer", 1, 1))
THINGS = (THING, ("stack", 1, 1))
WIDE = (("call", 0, 0, ADD), ("call", 1, 1, ("push", 0)), ("answer", 1, 1, True))
PLANS = ((ADD,), (LOOK, ADD))

# A fitting value of each kind of argument.
FITTING = {
    "thing": THING, "things": THINGS, "call": ADD, "state": 1, "row": (ADD, LOOK), "history": HISTORY,
    "pairs": ((0, ADD), (1, LOOK)), "wide": WIDE, "orders": ((0,), (0,)), "plans": PLANS, "few": PLANS, "weaving": (0, 1, 1),
    "text": SAMPLES["tries"], "thread": 1, "number": 3, "name": "locks", "any": None, "way": "retried", "free": 2,
}
# The functions of each module, with the kinds of their arguments; to any, way and free no wrong value is promised.
FUNCTIONS = {
    "objects": {
        "is_object": "any", "is_call": "thing any", "calls": "thing", "states": "thing", "first_state": "thing",
        "applied": "thing state call", "replayed": "thing row",
    },
    "telling": {
        "is_silent": "thing call", "commute": "thing state call call", "always_commute": "thing call call",
        "alike": "thing thing", "can_tell": "thing", "class_count": "thing", "parting": "thing thing", "tellings": "thing",
    },
    "histories": {
        "is_history": "thing any", "shows_order": "thing history any", "shows_in_step": "thing history any",
        "spans": "thing history", "whole": "thing pairs", "written": "thing history", "explained": "thing history",
        "in_step": "thing history", "order_count": "thing history", "first_wrong": "thing history",
    },
    "several": {
        "is_wide_history": "things any", "shows_all": "things wide any", "in_step_all": "things wide", "parts": "things wide",
        "woven": "things wide orders", "explained_all": "things wide",
    },
    "shared": {
        "history_of": "way thing plans weaving", "own_steps": "way thing plans weaving",
        "state_behind": "way thing plans weaving", "going": "way thing plans weaving",
        "applied_order": "way thing plans weaving", "alone": "way thing plans weaving free", "bound": "free",
        "starving": "thing call call number", "standing_count": "way thing few", "most_steps": "way thing few",
        "outcomes": "way thing few", "last_states": "way thing few", "bad_weaving": "way thing few",
    },
    "programs": {"is_program": "thing any", "cell_count": "thing text", "method_names": "thing text"},
    "coded": {
        "code_history": "thing text few weaving", "cells_behind": "thing text few weaving", "code_count": "thing text few",
        "code_bad": "thing text few",
    },
    "ending": {
        "each_alone": "thing text few", "somebody": "thing text few", "everybody": "thing text few",
        "silent_ring": "thing text few", "starving_ring": "thing text few thread", "shows_silent": "thing text few any",
        "shows_starving": "thing text few thread any",
    },
    "samples": {"sample": "name", "report": "thing text few"},
}
# The answers of these may be any such value.
ANY_SUCH = "explained in_step woven explained_all silent_ring starving_ring".split()


def others(*right):
    """Values of other kinds, without those that are right."""
    return [value for value in OTHER_VALUES if not any(same(value, told) for told in right)]


def each(values, made_error, *field):
    return [(value, made_error, field) for value in values]


NO_PLANS = others(((),)) + [
    [(ADD,)], ([ADD],), ((LOOK, None),), ((("add", 2),),), (LOOK,), ((),) * 5, ((ADD,) * 9,), ((("pop",),),), ((ADD,), ["look"]),
]
# For each kind of argument the wrong values, with the error of each and its field, if it has one.
WRONG = {
    "thing": each(NO_OBJECTS, BadObject),
    "things": each(
        others() + [THING, [THING], (THING, None), (THING,) * 4, ((THING,),), (THING, ("counter", 6)), (["counter", 2],)], BadObject),
    "call": each(others() + [("add", 2), ("add", 0), ("add", True), ["look"], ("look", 0), ("pop",), (ADD,)], BadCall),
    "state": each(others(0, 1) + [2, (0,), [0], "0"], BadState),
    "row": each(others(()) + [[ADD], (ADD, ["look"]), ADD, (LOOK, ("pop",)), (ADD, None)], BadCall),
    "history": each([value for value in others() if not isinstance(value, tuple)] + [list(HISTORY)], BadHistory, None)
    + each([(None,), (["call", 0, ADD],), (("call", 4, ADD),), (("answer", 0, 0),), WIDE], BadHistory, 0)
    + each([HISTORY[:2] + (("answer", 2, 1),), HISTORY[:2] + (None, None)], BadHistory, 2)
    + each([HISTORY[:1] + (("answer", 0, 0),) + HISTORY[:1] * 2], BadHistory, 3)
    + each([(("call", 0, ADD), ("answer", 0, 0)) * 13], BadHistory, 24),
    "pairs": each([value for value in others() if not isinstance(value, tuple)] + [[(0, ADD)], ((0, ADD),) * 13], BadHistory, None)
    + each([(0, ADD), ([0, ADD],), ((4, ADD),), ((True, ADD),), ((0, ("add", 2)),)], BadHistory, 0)
    + each([((0, ADD), (0, ADD, 0)), ((0, ADD), (1, None), None)], BadHistory, 1),
    "wide": each([value for value in others() if not isinstance(value, tuple)] + [list(WIDE)], BadHistory, None)
    + each([HISTORY, (("call", 0, 2, ADD),), (("call", 0, 1, ADD),)], BadHistory, 0)
    + each([WIDE[:2] + (("answer", 1, 0, True),), WIDE[:2] + (WIDE[0],)], BadHistory, 2)
    + each([(WIDE[0], ("answer", 0, 0, 0)) * 13], BadHistory, 24),
    "orders": each(others() + [(), ((0,),), ((0,), (1,)), ((0,), ()), [(0,), (0,)], ([0], (0,)), ((0,), (0,), ()), ((False,), (0,))], BadOrders),
    "plans": each(NO_PLANS, BadPlans),
    "few": each(NO_PLANS + [((),) * 4, ((ADD,) * 5,), ((ADD, ADD), (ADD,), (LOOK,)), ((ADD,) * 3, (LOOK,) * 2)], BadPlans),
    "weaving": each(
        others(()) + [[0], (True,), (4,), (-1,), (0, 4), (0, None), (0,) * 401, "0", (2, 5), (0, 2) * 201], BadWeaving, None)
    + each([(2,), (3, 0), (2, 2)], BadWeaving, 0) + each([(0, 1, 2), (1, 1, 3, 2)], BadWeaving, 2),
    "text": each([value for value in others() if not isinstance(value, str)] + [b"cells 0", ["cells 0"]], BadProgram, None)
    + each(["cells 0", made().replace("on look", "on looks")], BadProgram, None)
    + each(["", "cells", "counter", " " + made()], BadProgram, 0) + each(["cells 0\non add\non look\nanswer 0"], BadProgram, 1)
    + each([made(add=("answer what",)), made(add=("go end", "answer 0"))], BadProgram, 2)
    + each([made() + "\n"], BadProgram, 5) + each(["\n" * 60, made() + "\n" * 60], BadProgram, 60),
    "thread": each(others(0, 1) + [2, 3, 4, -1, (0,), [0], "0", 1.0, True, None], BadPlans),
    "number": each(others(*range(9)) + [-1, 9, 10 ** 30, "1", (1,), 1.0], BadPlans),
    "name": each(others() + ["", "lock", "Locks", "locks ", b"locks", ("locks",)], BadProgram, None),
}


def functions():
    """The functions with the kinds of their arguments, and fitting arguments."""
    for stem, table in FUNCTIONS.items():
        module = importlib.import_module(f"helpedcalls.{stem}")
        for name, kinds in table.items():
            yield getattr(module, name), kinds.split(), [FITTING[kind] for kind in kinds.split()]


def unchanged(value):
    """A copy to compare with, of values that can be changed."""
    return copy.deepcopy(value) if isinstance(value, (list, dict, set, tuple)) else None


class Whole(unittest.TestCase):
    def fails(self, function, told, error, field):
        kept = [unchanged(value) for value in told]
        with self.assertRaises(error) as caught:
            function(*told)
        self.assertIs(type(caught.exception), error)
        self.assertTrue(same(tuple(vars(caught.exception).values()), field), (vars(caught.exception), field))
        for value, old in zip(told, kept):
            if isinstance(value, (list, dict, set)):
                self.assertEqual(value, old)

    def test_all_functions_of_the_package_that_have_a_heading_are_here(self):
        for stem, table in FUNCTIONS.items():
            tree = ast.parse((PACKAGE / f"{stem}.py").read_text())
            found = [node.name for node in tree.body if isinstance(node, ast.FunctionDef) and not node.name.startswith("_")]
            self.assertEqual(sorted(found), sorted(table))

    def test_fitting_arguments_fit(self):
        for function, _, told in functions():
            self.assertIsNotNone((function(*told),))

    def test_a_wrong_value_in_each_place(self):
        tried = 0
        for function, kinds, told in functions():
            for place, kind in enumerate(kinds):
                for value, error, field in WRONG.get(kind, []):
                    row = told[:place] + [value] + told[place + 1:]
                    with self.subTest(function=function.__name__, place=place, value=value):
                        self.fails(function, row, error, field)
                        tried += 1
        self.assertGreater(tried, 5000)

    def test_of_several_wrong_values_the_first_one_is_told(self):
        for function, kinds, told in functions():
            places = [place for place, kind in enumerate(kinds) if kind in WRONG]
            for many in range(2, len(places) + 1):
                for row in itertools.combinations(places, many):
                    for turn in range(7):
                        self.several(function, kinds, list(told), row, turn)

    def several(self, function, kinds, told, places, turn):
        first = None
        for place in places:
            rows = WRONG[kinds[place]]
            value, error, field = rows[(turn * len(rows)) // 7]
            told[place] = value
            first = first or (error, field)
        with self.subTest(function=function.__name__, told=told):
            self.fails(function, told, *first)

    def test_objects_with_unlike_calls_are_no_pair(self):
        telling = importlib.import_module("helpedcalls.telling")
        for function in (telling.parting, telling.alike):
            self.fails(function, [THING, ("counter", 3)], BadPair, ())
            self.fails(function, [THING, ("counter", 6)], BadObject, ())
            self.fails(function, [("counter", 1), ("counter", 3)], BadObject, ())

    def test_any_value_is_judged(self):
        """What takes any value answers True or False, and changes none."""
        for function, kinds, told in functions():
            if kinds[-1] != "any":
                continue
            for value in OTHER_VALUES + NO_OBJECTS + [row[0] for rows in WRONG.values() for row in rows] + list(FITTING.values()):
                kept = unchanged(value)
                with self.subTest(function=function.__name__, value=value):
                    self.assertIsInstance(function(*told[:-1], value), bool)
                    if isinstance(value, (list, dict, set)):
                        self.assertEqual(value, kept)

    def test_equal_arguments_have_equal_answers(self):
        rows = [(function, told) for function, _, told in functions()]
        before = [function(*told) for function, told in rows]
        for _ in range(2):
            for (function, told), answer in reversed(list(zip(rows, before))):
                twin = function(*copy.deepcopy(told))
                if function.__name__ not in ANY_SUCH:
                    # What is written of values tells 1 from True.
                    self.assertEqual(repr(twin), repr(answer), function.__name__)

    def test_wrong_arguments_leave_no_trace(self):
        for function, kinds, told in functions():
            if function.__name__ in ANY_SUCH:
                continue
            before = function(*told)
            for place, kind in enumerate(kinds):
                for value, _, _ in WRONG.get(kind, [])[:20]:
                    with self.assertRaises(SharedError):
                        function(*told[:place], value, *told[place + 1:])
            self.assertEqual(function(*told), before, function.__name__)

    def test_lists_are_not_changed_where_tuples_are_taken(self):
        def listed(value):
            return [listed(part) for part in value] if isinstance(value, tuple) else value

        for function, _, told in functions():
            for place, value in enumerate(told):
                row = told[:place] + [listed(value)] + told[place + 1:]
                kept = copy.deepcopy(row)
                try:
                    function(*row)
                except SharedError:
                    pass
                self.assertEqual(row, kept, function.__name__)


if __name__ == "__main__":
    unittest.main()
