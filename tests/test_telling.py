"""Point 3: what calls tell."""

import itertools
import unittest

from helpedcalls.errors import BadCall, BadObject, BadPair, BadState
from helpedcalls.objects import applied, calls, replayed, states
from helpedcalls.telling import (
    alike, always_commute, can_tell, class_count, commute, is_silent, parting, tellings,
)
from helpedcalls.values import same
from tests.examples import EDGE_TABLE, HIDDEN_ROW, NO_OBJECTS, OBJECTS

SMALL = [thing for thing in OBJECTS if len(states(thing)) <= 16]
ONE = ("table", (((1, 0),), ((0, 0),)))
OTHER = ("table", (((1, 0),), ((0, 1),)))
# Two rounds of unlike lengths: their answers part only at the sixth call.
ROUND_TWO = ("table", (((1, 0), (0, 0)), ((0, 1), (1, 1))))
ROUND_SIX = ("table", (
    ((1, 0), (0, 0)), ((2, 1), (1, 1)), ((3, 0), (2, 0)), ((4, 1), (3, 1)), ((5, 0), (4, 0)), ((0, 2), (5, 1)),
))


def from_state(thing, state, row):
    answers = []
    for call in row:
        state, answer = applied(thing, state, call)
        answers.append(answer)
    return tuple(answers)


class Interface(unittest.TestCase):
    def test_the_answers_that_the_interface_writes_out(self):
        told = [
            is_silent(("counter", 3), ("look",)), commute(("counter", 3), 0, ("add", 1), ("look",)),
            tellings(("agree", 2)), can_tell(("register", 2)), class_count(ONE), parting(ONE, OTHER), alike(ONE, ONE),
        ]
        wanted = [True, False, [(None, ("decide", 0), ("decide", 1))], True, 1, (("do", 0), ("do", 0)), True]
        self.assertEqual(told, wanted)
        for at in (0, 1, 3, 6):
            self.assertIsInstance(told[at], bool)
        self.assertNotIsInstance(told[4], bool)


class Silent(unittest.TestCase):
    def test_the_silent_calls_of_each_kind(self):
        for thing, told in (
            (("counter", 5), [("look",)]),
            (("register", 2), [("look",)]),
            (("stack", 1, 1), []),
            (("queue", 3, 3), []),
            (("set", 2), [("has", 0), ("has", 1)]),
            (("agree", 2), []),
            (("bank", (0, 0)), list(calls(("bank", (0, 0))))),
            (("bank", (1, 0)), [
                ("look", 0), ("look", 1), ("move", 0, 1, 2), ("move", 0, 1, 3), ("move", 1, 0, 2), ("move", 1, 0, 3),
            ]),
            (EDGE_TABLE, [("do", 2)]),
            # The third row, which the second call would change, is no state.
            (HIDDEN_ROW, [("do", 1)]),
        ):
            found = [call for call in calls(thing) if is_silent(thing, call)]
            self.assertEqual(found, told, thing)

    def test_the_answer_is_a_bool(self):
        self.assertIs(is_silent(("counter", 2), ("look",)), True)
        self.assertIs(is_silent(("counter", 2), ("add", 1)), False)

    def test_wrong_arguments(self):
        with self.assertRaises(BadCall):
            is_silent(("counter", 3), ("add", 3))
        with self.assertRaises(BadCall):
            is_silent(("counter", 3), ["look"])


class Commuting(unittest.TestCase):
    def test_calls_that_commute(self):
        for thing, state, one, other in (
            (("counter", 3), 1, ("look",), ("look",)),
            (("register", 2), 1, ("put", 1), ("put", 1)),
            (("register", 2), 0, ("look",), ("put", 0)),
            (("set", 3), (), ("add", 0), ("add", 1)),
            (("set", 3), (0,), ("drop", 0), ("has", 1)),
            (("stack", 1, 2), (0,), ("push", 0), ("push", 1)),
            (("stack", 3, 2), (), ("push", 0), ("push", 0)),
            (("queue", 2, 2), (0,), ("enter", 1), ("leave",)),
            (("agree", 2), 0, ("decide", 0), ("decide", 1)),
            (("agree", 2), None, ("decide", 1), ("decide", 1)),
            (("bank", (2, 1)), (2, 1), ("move", 0, 1, 1), ("move", 1, 0, 1)),
        ):
            self.assertIs(commute(thing, state, one, other), True, (thing, state, one, other))
            self.assertIs(commute(thing, state, other, one), True, (thing, state, one, other))

    def test_calls_that_do_not(self):
        for thing, state, one, other in (
            (("counter", 3), 0, ("add", 1), ("add", 2)),
            (("counter", 3), 0, ("add", 1), ("look",)),
            # The same state behind both sequences, but each answer is another one.
            (("counter", 3), 0, ("add", 1), ("add", 1)),
            # The same answers in both sequences, but another state.
            (("register", 2), 0, ("put", 0), ("put", 1)),
            (("stack", 3, 2), (), ("push", 0), ("push", 1)),
            (("queue", 2, 2), (), ("enter", 0), ("leave",)),
            (("set", 3), (), ("add", 0), ("add", 0)),
            (("set", 3), (0,), ("drop", 0), ("has", 0)),
            (("agree", 2), None, ("decide", 0), ("decide", 1)),
            (("bank", (2, 1)), (3, 0), ("move", 0, 1, 1), ("move", 1, 0, 1)),
        ):
            self.assertIs(commute(thing, state, one, other), False, (thing, state, one, other))
            self.assertIs(commute(thing, state, other, one), False, (thing, state, one, other))

    def test_one_answer_alone_parts_the_sequences(self):
        # Each row leads to itself or to the second one; only the answer of one call is another one behind the other.
        thing = ("table", (((1, 0), (0, 5)), ((1, 0), (1, 6))))
        self.assertIs(commute(thing, 0, ("do", 0), ("do", 1)), False)
        self.assertIs(commute(thing, 0, ("do", 1), ("do", 0)), False)
        self.assertIs(commute(thing, 1, ("do", 0), ("do", 1)), True)

    def test_it_is_what_both_sequences_tell(self):
        for thing in SMALL:
            for one, other in itertools.product(calls(thing), repeat=2):
                told = []
                for state in states(thing):
                    first, ahead = applied(thing, state, one)
                    last, behind = applied(thing, first, other)
                    swapped, other_ahead = applied(thing, state, other)
                    end, other_behind = applied(thing, swapped, one)
                    told.append(same((last, ahead, behind), (end, other_behind, other_ahead)))
                    self.assertIs(commute(thing, state, one, other), told[-1])
                self.assertIs(always_commute(thing, one, other), all(told))

    def test_always_is_at_all_states(self):
        self.assertIs(always_commute(("counter", 3), ("look",), ("look",)), True)
        self.assertIs(always_commute(("set", 3), ("add", 0), ("drop", 1)), True)
        self.assertIs(always_commute(("agree", 2), ("decide", 0), ("decide", 1)), False)
        self.assertIs(always_commute(("bank", (0, 0)), ("move", 0, 1, 1), ("look", 0)), True)
        self.assertIs(always_commute(("bank", (0, 1)), ("move", 0, 1, 1), ("look", 0)), False)
        # The calls do not commute at the row that is no state.
        thing = ("table", (((0, 0), (0, 0)), ((0, 0), (1, 1))))
        self.assertIs(always_commute(thing, ("do", 0), ("do", 1)), True)

    def test_wrong_arguments(self):
        with self.assertRaises(BadState):
            commute(HIDDEN_ROW, 2, ("do", 0), ("do", 1))
        with self.assertRaises(BadState):
            commute(("counter", 2), True, ("look",), ("look",))
        with self.assertRaises(BadCall):
            commute(("counter", 2), 1, ("look",), ("look", 0))
        with self.assertRaises(BadCall):
            always_commute(("counter", 2), ("look",), ["look"])


class Classes(unittest.TestCase):
    def test_all_states_are_parted_where_a_call_looks(self):
        for thing, many in (
            (("counter", 5), 5), (("register", 5), 5), (("stack", 3, 3), 40), (("queue", 3, 3), 40), (("set", 5), 32),
            (("agree", 5), 6), (("bank", (5, 5, 5)), 136), (("stack", 1, 1), 2), (("bank", (0, 0)), 1),
            (("stack", 3, 1), 4), (("queue", 3, 1), 4),
        ):
            self.assertEqual(class_count(thing), many, thing)

    def test_states_that_no_calls_part_are_one_class(self):
        self.assertEqual(class_count(ONE), 1)
        self.assertEqual(class_count(OTHER), 2)
        self.assertEqual(class_count(ROUND_TWO), 2)
        self.assertEqual(class_count(ROUND_SIX), 6)
        # The last row has other answers, but is no state.
        self.assertEqual(class_count(("table", (((1, 0),), ((0, 0),), ((2, 5),)))), 1)
        # A chain: the states are parted one by one, by ever longer tuples of calls.
        chain = ("table", (((1, 0),), ((2, 0),), ((3, 0),), ((4, 0),), ((5, 0),), ((5, 1),)))
        self.assertEqual(class_count(chain), 6)

    def test_it_is_what_pairs_of_states_tell(self):
        for thing in SMALL + [ONE, OTHER, ROUND_TWO, ("table", (((1, 3), (2, 3)), ((1, 4), (0, 3)), ((2, 4), (0, 3))))]:
            rows = [row for many in range(4) for row in itertools.product(calls(thing), repeat=many)]
            if len(rows) < 2000:
                found = {tuple(map(repr, (from_state(thing, state, row) for row in rows))) for state in states(thing)}
                self.assertEqual(class_count(thing), len(found), thing)


class Partings(unittest.TestCase):
    def test_the_shortest_row_is_told(self):
        self.assertEqual(parting(ONE, OTHER), (("do", 0), ("do", 0)))
        self.assertEqual(parting(ROUND_TWO, ROUND_SIX), (("do", 0),) * 6)
        self.assertEqual(parting(("stack", 1, 1), ("stack", 2, 1)), (("push", 0), ("push", 0)))
        self.assertEqual(parting(("stack", 2, 3), ("stack", 3, 3)), (("push", 0),) * 3)
        self.assertEqual(parting(("queue", 1, 2), ("queue", 3, 2)), (("enter", 0),) * 2)
        self.assertEqual(parting(("bank", (1, 2)), ("bank", (1, 3))), (("look", 1),))
        self.assertEqual(parting(("bank", (0, 0, 0)), ("bank", (0, 0, 1))), (("look", 2),))

    def test_of_rows_of_one_length_the_first_is_told(self):
        # Both calls lead to where the answers part; so do all four rows of two calls.
        one = ("table", (((1, 0), (1, 0)), ((1, 1), (1, 1))))
        other = ("table", (((1, 0), (1, 0)), ((1, 2), (1, 2))))
        self.assertEqual(parting(one, other), (("do", 0), ("do", 0)))
        # Only behind the second call, and only by the first.
        one = ("table", (((0, 0), (1, 0)), ((1, 1), (1, 1))))
        other = ("table", (((0, 0), (1, 0)), ((1, 2), (1, 1))))
        self.assertEqual(parting(one, other), (("do", 1), ("do", 0)))

    def test_it_is_the_first_of_all_rows_that_part(self):
        tables = [
            ("table", rows) for rows in itertools.product(
                [((0, 0), (1, 0)), ((1, 0), (2, 0)), ((2, 1), (0, 0)), ((0, 0), (2, 0)), ((1, 0), (0, 1))], repeat=3)
        ][::4]
        rows = [row for many in range(1, 6) for row in itertools.product((("do", 0), ("do", 1)), repeat=many)]
        for one, other in itertools.product(tables, repeat=2):
            wanted = None
            for row in rows:
                if not same(replayed(one, row)[0], replayed(other, row)[0]):
                    wanted = row
                    break
            told = parting(one, other)
            # A longer row than these may part them; then none of these does.
            if wanted is None and told is not None:
                self.assertGreater(len(told), 5)
                self.assertNotEqual(replayed(one, told)[0], replayed(other, told)[0])
                self.assertEqual(replayed(one, told[:-1])[0], replayed(other, told[:-1])[0])
            else:
                self.assertEqual(told, wanted)
            self.assertIs(alike(one, other), told is None)

    def test_objects_without_a_parting_are_alike(self):
        for thing in OBJECTS:
            self.assertIsNone(parting(thing, thing))
            self.assertIs(alike(thing, thing), True)
        double = ("table", (((1, 0),), ((2, 0),), ((0, 0),)))
        self.assertIsNone(parting(ONE, double))
        self.assertIs(alike(ONE, double), True)
        self.assertIs(alike(ONE, OTHER), False)

    def test_objects_of_other_calls_are_no_pair(self):
        for one, other in (
            (("counter", 2), ("counter", 3)), (("counter", 2), ("agree", 2)), (("stack", 1, 1), ("stack", 1, 2)),
            (("stack", 1, 1), ("queue", 1, 1)), (("bank", (0, 0)), ("bank", (0, 0, 0))), (ONE, ROUND_TWO),
        ):
            for left, right in ((one, other), (other, one)):
                with self.assertRaises(BadPair):
                    parting(left, right)
                with self.assertRaises(BadPair):
                    alike(left, right)


class Tellings(unittest.TestCase):
    def test_the_tellings_of_small_objects(self):
        for thing, told in (
            (("counter", 2), [(0, ("add", 1), ("add", 1)), (1, ("add", 1), ("add", 1))]),
            (("register", 2), [(0, ("trade", 1), ("trade", 1)), (1, ("trade", 0), ("trade", 0))]),
            (("set", 2), [
                ((), ("add", 0), ("add", 0)), ((), ("add", 1), ("add", 1)),
                ((0,), ("add", 1), ("add", 1)), ((0,), ("drop", 0), ("drop", 0)),
                ((1,), ("add", 0), ("add", 0)), ((1,), ("drop", 1), ("drop", 1)),
                ((0, 1), ("drop", 0), ("drop", 0)), ((0, 1), ("drop", 1), ("drop", 1)),
            ]),
            (("agree", 2), [(None, ("decide", 0), ("decide", 1))]),
            (("agree", 3), [
                (None, ("decide", 0), ("decide", 1)), (None, ("decide", 0), ("decide", 2)),
                (None, ("decide", 1), ("decide", 2)),
            ]),
            (("stack", 1, 1), [((), ("push", 0), ("push", 0)), ((0,), ("pop",), ("pop",))]),
            (("bank", (0, 0)), []),
            (("bank", (0, 1)), [
                ((0, 1), ("move", 1, 0, 1), ("move", 1, 0, 1)), ((1, 0), ("move", 0, 1, 1), ("move", 0, 1, 1)),
            ]),
            (ONE, []),
        ):
            self.assertEqual(tellings(thing), told, thing)
            self.assertIs(can_tell(thing), told != [])

    def test_they_are_what_the_answers_tell(self):
        for thing in OBJECTS:
            if len(states(thing)) > 40:
                continue
            rows = calls(thing)
            wanted = []
            for state in states(thing):
                steps = {call: applied(thing, state, call) for call in rows}
                later = {(ahead, call): applied(thing, steps[ahead][0], call)[1] for ahead in rows for call in rows}
                for one, other in itertools.combinations_with_replacement(rows, 2):
                    moved = not same(steps[one][1], later[(other, one)])
                    if moved and not same(steps[other][1], later[(one, other)]):
                        wanted.append((state, one, other))
            self.assertEqual(tellings(thing), wanted)
            self.assertIs(can_tell(thing), wanted != [])

    def test_a_list_of_triples_comes_back(self):
        found = tellings(("bank", (5, 5, 5)))
        self.assertIsInstance(found, list)
        self.assertTrue(all(isinstance(row, tuple) and len(row) == 3 for row in found))


class NoObjects(unittest.TestCase):
    def test_every_function_raises_for_what_is_no_object(self):
        good = ("counter", 2)
        for value in NO_OBJECTS:
            for function, told in (
                (is_silent, (value, ("look",))), (commute, (value, 0, ("look",), ("look",))),
                (always_commute, (value, ("look",), ("look",))), (class_count, (value,)), (parting, (value, good)),
                (parting, (good, value)), (alike, (value, good)), (alike, (good, value)), (tellings, (value,)),
                (can_tell, (value,)),
            ):
                with self.subTest(function=function.__name__, value=value), self.assertRaises(BadObject):
                    function(*told)


if __name__ == "__main__":
    unittest.main()
