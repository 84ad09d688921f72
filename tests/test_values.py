"""Point 1: what holds everywhere."""

import copy
import unittest

from helpedcalls import histories, objects, several, shared, telling
from helpedcalls.errors import (
    BadCall, BadHistory, BadObject, BadOrders, BadPair, BadPlans, BadState, BadWeaving,
)
from helpedcalls.values import are_within, is_integer, is_within, same
from tests.examples import EqualToAll, OBJECTS

ODD = ("heap", 1)
COUNTER = ("counter", 3)
ADD, LOOK = ("add", 1), ("look",)
HISTORY = (("call", 0, ADD), ("call", 1, LOOK), ("answer", 1, 1))
THINGS = (COUNTER, ("stack", 1, 1))
WIDE = (("call", 0, 0, ADD), ("call", 1, 1, ("push", 0)), ("answer", 1, 1, True))
PLANS, WEAVING = ((ADD,), (LOOK, ADD)), (0, 1, 1, 0)

# Every function of points 4 to 10 with fitting arguments.
FITTING = [
    (histories.is_history, (COUNTER, HISTORY)), (histories.spans, (COUNTER, HISTORY)),
    (histories.whole, (COUNTER, ((0, ADD), (1, LOOK)))), (histories.written, (COUNTER, HISTORY)),
    (histories.shows_order, (COUNTER, HISTORY, (0, 1))), (histories.order_count, (COUNTER, HISTORY)),
    (histories.first_wrong, (COUNTER, HISTORY)), (histories.shows_in_step, (COUNTER, HISTORY, (0, 1))),
    (several.is_wide_history, (THINGS, WIDE)), (several.parts, (THINGS, WIDE)),
    (several.shows_all, (THINGS, WIDE, (0, 1))), (several.in_step_all, (THINGS, WIDE)),
] + [
    (function, ("retried", COUNTER, PLANS, WEAVING)) for function in (
        shared.history_of, shared.own_steps, shared.state_behind, shared.going, shared.applied_order)
] + [
    (function, (way, COUNTER, PLANS)) for way in ("helped", "retried", "locked", "naive") for function in (
        shared.standing_count, shared.most_steps, shared.outcomes, shared.last_states, shared.bad_weaving)
] + [
    (shared.alone, ("locked", COUNTER, PLANS, WEAVING, 1)), (shared.bound, (3,)),
    (shared.starving, (COUNTER, ADD, LOOK, 3)),
]
# Any such value may come from these, and not always the same one.
ANY_SUCH = [
    (histories.explained, (COUNTER, HISTORY)), (histories.in_step, (COUNTER, HISTORY)),
    (several.explained_all, (THINGS, WIDE)), (several.woven, (THINGS, WIDE, ((), (0,)))),
]


class Integers(unittest.TestCase):
    def test_an_int_that_is_no_bool_is_an_integer(self):
        for value in (0, 1, -1, 10 ** 50):
            self.assertIs(is_integer(value), True)
        for value in (True, False, None, 1.0, "1", b"1", (1,), [1]):
            self.assertIs(is_integer(value), False)

    def test_limits_are_within(self):
        self.assertEqual([is_within(value, 2, 5) for value in (1, 2, 5, 6)], [False, True, True, False])
        self.assertIs(is_within(True, 0, 5), False)
        self.assertIs(is_within("3", 0, 5), False)

    def test_all_parts_of_a_tuple_are_within(self):
        self.assertIs(are_within((), 0, 1), True)
        self.assertIs(are_within((0, 1), 0, 1), True)
        for value in ((0, 2), (-1, 0), (0, True), [0, 1], None, 0):
            self.assertIs(are_within(value, 0, 1), False)

    def test_no_bool_stands_for_a_number(self):
        self.assertIs(objects.is_object(("stack", True, 1)), False)
        self.assertIs(objects.is_call(COUNTER, ("add", True)), False)
        with self.assertRaises(BadState):
            objects.applied(COUNTER, True, ("look",))


class Same(unittest.TestCase):
    def test_every_value_is_the_same_as_itself_alone(self):
        row = [None, False, True, 0, 1, 2, "", "1", "True", (), (0,), (False,), (1,), (True,), (1, 0), (1, ()), ((1,),)]
        for at, one in enumerate(row):
            for place, other in enumerate(row):
                self.assertIs(same(one, other), at == place, (one, other))

    def test_values_of_other_kinds_are_not_the_same(self):
        for one, other in (
            (1, 1.0), ((1,), [1]), ((1, (2,)), (1, [2])), ("a", b"a"), (None, ()), ([1], (1,)), (True, 1.0),
        ):
            self.assertIs(same(one, other), False)
            self.assertIs(same(other, one), False)

    def test_being_called_equal_is_not_enough(self):
        odd = EqualToAll()
        for value in (None, True, 1, "1", ()):
            self.assertIs(same(value, odd), False)
            self.assertIs(same(odd, value), False)

    def test_equal_tuples_of_different_making_are_the_same(self):
        self.assertIs(same(("move", 0, (1, None)), tuple(["move", 0, (1, None)])), True)


class Arguments(unittest.TestCase):
    def test_equal_arguments_have_equal_answers(self):
        for thing in OBJECTS:
            twin = copy.deepcopy(thing)
            for function in (objects.calls, objects.states, objects.first_state, telling.class_count):
                self.assertTrue(same(function(thing), function(twin)))
            self.assertEqual(telling.tellings(thing), telling.tellings(twin))

    def test_equal_arguments_have_equal_answers_of_histories_and_weavings(self):
        for function, told in FITTING:
            first = function(*told)
            for _ in range(2):
                self.assertTrue(same(function(*copy.deepcopy(told)), first), function.__name__)
            # The answer is not one that a call between can change.
            for other, row in FITTING:
                other(*row)
            self.assertTrue(same(function(*told), first), function.__name__)
        for function, told in ANY_SUCH:
            self.assertIsNotNone(function(*told), function.__name__)

    def test_answers_that_are_lists_are_new_ones(self):
        found = telling.tellings(COUNTER)
        found.clear()
        self.assertNotEqual(telling.tellings(COUNTER), [])

    def test_arguments_are_not_changed(self):
        for value in (["counter", 3], ["table", [[[0, 0]]]], {"counter": 3}, ("bank", [2, 0]), ("table", [((0, 0),)])):
            kept = copy.deepcopy(value)
            self.assertIs(objects.is_object(value), False)
            self.assertEqual(value, kept)
        for value in (["add", 1], ("add", [1]), {"add": 1}):
            kept = copy.deepcopy(value)
            self.assertIs(objects.is_call(COUNTER, value), False)
            self.assertEqual(value, kept)
        row = [("add", 1)]
        with self.assertRaises(BadCall):
            objects.replayed(COUNTER, row)
        self.assertEqual(row, [("add", 1)])

    def test_the_first_wrong_argument_comes_first(self):
        bad = ("add", 3)
        for error, function, told in (
            (BadObject, objects.is_call, (ODD, bad)),
            (BadObject, objects.applied, (ODD, 3, bad)),
            (BadState, objects.applied, (COUNTER, 3, bad)),
            (BadCall, objects.applied, (COUNTER, 2, bad)),
            (BadObject, objects.replayed, (ODD, (bad,))),
            (BadObject, telling.is_silent, (ODD, bad)),
            (BadObject, telling.commute, (ODD, 3, bad, bad)),
            (BadState, telling.commute, (COUNTER, 3, bad, bad)),
            (BadCall, telling.commute, (COUNTER, 2, bad, ("look",))),
            (BadCall, telling.commute, (COUNTER, 2, ("look",), bad)),
            (BadObject, telling.always_commute, (ODD, bad, bad)),
            (BadCall, telling.always_commute, (COUNTER, bad, ("look",))),
            (BadCall, telling.always_commute, (COUNTER, ("look",), bad)),
            (BadObject, telling.parting, (ODD, ("counter", 2))),
            (BadObject, telling.parting, (COUNTER, ODD)),
            (BadPair, telling.parting, (COUNTER, ("counter", 2))),
            (BadObject, telling.alike, (ODD, ("counter", 2))),
            (BadObject, telling.alike, (COUNTER, ODD)),
            (BadPair, telling.alike, (COUNTER, ("counter", 2))),
            (BadObject, histories.is_history, (ODD, None)),
            (BadObject, histories.spans, (ODD, None)),
            (BadObject, histories.whole, (ODD, None)),
            (BadHistory, histories.shows_order, (COUNTER, None, None)),
            (BadHistory, histories.shows_in_step, (COUNTER, [], (9,))),
            (BadObject, several.is_wide_history, ((), None)),
            (BadObject, several.woven, ((COUNTER, ODD), None, None)),
            (BadHistory, several.woven, (THINGS, None, None)),
            (BadOrders, several.woven, (THINGS, WIDE, None)),
            (BadHistory, several.shows_all, (THINGS, (None,), None)),
            (BadObject, shared.alone, ("helped", ODD, None, None, 0)),
            (BadPlans, shared.alone, ("helped", COUNTER, None, None, 0)),
            (BadWeaving, shared.alone, ("helped", COUNTER, PLANS, None, 0)),
            (BadObject, shared.outcomes, ("helped", ODD, None)),
            (BadPlans, shared.outcomes, ("helped", COUNTER, ((bad,),))),
            (BadObject, shared.starving, (ODD, bad, bad, 9)),
            (BadCall, shared.starving, (COUNTER, bad, LOOK, 9)),
            (BadCall, shared.starving, (COUNTER, LOOK, bad, 9)),
            (BadPlans, shared.starving, (COUNTER, LOOK, LOOK, 9)),
        ):
            with self.subTest(function=function.__name__, told=told), self.assertRaises(error):
                function(*told)


if __name__ == "__main__":
    unittest.main()
