"""Point 1: what holds everywhere."""

import copy
import unittest

from helpedcalls import objects, telling
from helpedcalls.errors import BadCall, BadObject, BadPair, BadState
from helpedcalls.values import are_within, is_integer, is_within, same
from tests.examples import EqualToAll, OBJECTS

ODD = ("heap", 1)
COUNTER = ("counter", 3)


class Integers(unittest.TestCase):
    def test_an_int_that_is_no_bool_is_an_integer(self):
        for value in (0, 1, -1, 10 ** 50):
            self.assertIs(is_integer(value), True)
        for value in (True, False, None, 1.0, "1", b"1", (1,), [1]):
            self.assertIs(is_integer(value), False)

    def test_limits_are_within(self):
        self.assertEqual([is_within(value, 2, 5) for value in (1, 2, 5, 6)], [False, True, True, False])
        self.assertIs(is_within(True, 0, 5), False)
        self.assertIs(is_within("3", 0, 5), False)

    def test_all_parts_of_a_tuple_are_within(self):
        self.assertIs(are_within((), 0, 1), True)
        self.assertIs(are_within((0, 1), 0, 1), True)
        for value in ((0, 2), (-1, 0), (0, True), [0, 1], None, 0):
            self.assertIs(are_within(value, 0, 1), False)

    def test_no_bool_stands_for_a_number(self):
        self.assertIs(objects.is_object(("stack", True, 1)), False)
        self.assertIs(objects.is_call(COUNTER, ("add", True)), False)
        with self.assertRaises(BadState):
            objects.applied(COUNTER, True, ("look",))


class Same(unittest.TestCase):
    def test_every_value_is_the_same_as_itself_alone(self):
        row = [None, False, True, 0, 1, 2, "", "1", "True", (), (0,), (False,), (1,), (True,), (1, 0), (1, ()), ((1,),)]
        for at, one in enumerate(row):
            for place, other in enumerate(row):
                self.assertIs(same(one, other), at == place, (one, other))

    def test_values_of_other_kinds_are_not_the_same(self):
        for one, other in (
            (1, 1.0), ((1,), [1]), ((1, (2,)), (1, [2])), ("a", b"a"), (None, ()), ([1], (1,)), (True, 1.0),
        ):
            self.assertIs(same(one, other), False)
            self.assertIs(same(other, one), False)

    def test_being_called_equal_is_not_enough(self):
        odd = EqualToAll()
        for value in (None, True, 1, "1", ()):
            self.assertIs(same(value, odd), False)
            self.assertIs(same(odd, value), False)

    def test_equal_tuples_of_different_making_are_the_same(self):
        self.assertIs(same(("move", 0, (1, None)), tuple(["move", 0, (1, None)])), True)


class Arguments(unittest.TestCase):
    def test_equal_arguments_have_equal_answers(self):
        for thing in OBJECTS:
            twin = copy.deepcopy(thing)
            for function in (objects.calls, objects.states, objects.first_state, telling.class_count):
                self.assertTrue(same(function(thing), function(twin)))
            self.assertEqual(telling.tellings(thing), telling.tellings(twin))

    def test_answers_that_are_lists_are_new_ones(self):
        found = telling.tellings(COUNTER)
        found.clear()
        self.assertNotEqual(telling.tellings(COUNTER), [])

    def test_arguments_are_not_changed(self):
        for value in (["counter", 3], ["table", [[[0, 0]]]], {"counter": 3}, ("bank", [2, 0]), ("table", [((0, 0),)])):
            kept = copy.deepcopy(value)
            self.assertIs(objects.is_object(value), False)
            self.assertEqual(value, kept)
        for value in (["add", 1], ("add", [1]), {"add": 1}):
            kept = copy.deepcopy(value)
            self.assertIs(objects.is_call(COUNTER, value), False)
            self.assertEqual(value, kept)
        row = [("add", 1)]
        with self.assertRaises(BadCall):
            objects.replayed(COUNTER, row)
        self.assertEqual(row, [("add", 1)])

    def test_the_first_wrong_argument_comes_first(self):
        bad = ("add", 3)
        for error, function, told in (
            (BadObject, objects.is_call, (ODD, bad)),
            (BadObject, objects.applied, (ODD, 3, bad)),
            (BadState, objects.applied, (COUNTER, 3, bad)),
            (BadCall, objects.applied, (COUNTER, 2, bad)),
            (BadObject, objects.replayed, (ODD, (bad,))),
            (BadObject, telling.is_silent, (ODD, bad)),
            (BadObject, telling.commute, (ODD, 3, bad, bad)),
            (BadState, telling.commute, (COUNTER, 3, bad, bad)),
            (BadCall, telling.commute, (COUNTER, 2, bad, ("look",))),
            (BadCall, telling.commute, (COUNTER, 2, ("look",), bad)),
            (BadObject, telling.always_commute, (ODD, bad, bad)),
            (BadCall, telling.always_commute, (COUNTER, bad, ("look",))),
            (BadCall, telling.always_commute, (COUNTER, ("look",), bad)),
            (BadObject, telling.parting, (ODD, ("counter", 2))),
            (BadObject, telling.parting, (COUNTER, ODD)),
            (BadPair, telling.parting, (COUNTER, ("counter", 2))),
            (BadObject, telling.alike, (ODD, ("counter", 2))),
            (BadObject, telling.alike, (COUNTER, ODD)),
            (BadPair, telling.alike, (COUNTER, ("counter", 2))),
        ):
            with self.subTest(function=function.__name__, told=told), self.assertRaises(error):
                function(*told)


if __name__ == "__main__":
    unittest.main()
