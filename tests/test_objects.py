"""Point 2: objects, their calls and states, and what a call does."""

import unittest

from helpedcalls.errors import BadCall, BadObject, BadState
from helpedcalls.objects import applied, calls, first_state, is_call, is_object, replayed, states
from helpedcalls.values import same
from tests.examples import BEYOND, EDGE_TABLE, HIDDEN_ROW, NO_OBJECTS, OBJECTS, OTHER_VALUES, WRONG_KINDS


class Told(unittest.TestCase):
    """Compares kinds too: 1 is not True here."""

    def assertSame(self, one, other, told=None):
        self.assertTrue(same(one, other), (one, other, told))


class Interface(Told):
    def test_the_answers_that_the_interface_writes_out(self):
        row = (("move", 0, 1, 2), ("move", 0, 1, 1), ("look", 1))
        told = [
            calls(("counter", 3)), states(("stack", 1, 2)), first_state(("agree", 2)), is_object(("counter", 6)),
            applied(("stack", 1, 2), (1,), ("push", 0)), replayed(("bank", (2, 0)), row),
        ]
        wanted = [
            (("add", 1), ("add", 2), ("look",)), ((), (0,), (1,)), None, False, ((1,), False),
            ((True, False, 2), (0, 2)),
        ]
        self.assertSame(tuple(told), tuple(wanted))


class Objects(Told):
    def test_all_sizes_within_the_limits_are_objects(self):
        for thing in OBJECTS:
            self.assertIs(is_object(thing), True, thing)
        for kind in ("counter", "register", "set", "agree"):
            self.assertEqual([m for m in range(-1, 9) if is_object((kind, m))], [2, 3, 4, 5])
        for kind in ("stack", "queue"):
            found = [(room, m) for room in range(-1, 6) for m in range(-1, 6) if is_object((kind, room, m))]
            self.assertEqual(found, [(room, m) for room in (1, 2, 3) for m in (1, 2, 3)])

    def test_sizes_beyond_the_limits_are_none(self):
        for value in BEYOND:
            self.assertIs(is_object(value), False, value)

    def test_values_of_other_kinds_are_none(self):
        for value in WRONG_KINDS + OTHER_VALUES:
            self.assertIs(is_object(value), False, value)

    def test_tables_at_their_limits(self):
        self.assertIs(is_object(("table", (((5, 9),) * 4,) * 6)), True)
        self.assertIs(is_object(("table", (((6, 9),) * 4,) * 6)), False)
        self.assertIs(is_object(("table", (((0, 9),) * 4,) * 5 + (((0, 9),) * 3,))), False)
        self.assertIs(is_object(("table", (((0, 9),) * 5,) * 6)), False)
        self.assertIs(is_object(("table", (((0, 0),), ((1, 0),), ((2, 10),)))), False)

    def test_banks_at_their_limits(self):
        for amounts in ((5, 5), (0, 0, 0), (0, 5), (5, 0, 5)):
            self.assertIs(is_object(("bank", amounts)), True)
        for amounts in ((6, 0), (0, 0, 6), (0, 0, -1), (5, 5, 5, 5), (5,)):
            self.assertIs(is_object(("bank", amounts)), False)

    def test_every_function_raises_for_what_is_no_object(self):
        for value in NO_OBJECTS:
            for function, told in (
                (calls, ()), (states, ()), (first_state, ()), (is_call, (("look",),)), (replayed, ((),)),
                (applied, (0, ("look",))),
            ):
                with self.subTest(function=function.__name__, value=value), self.assertRaises(BadObject):
                    function(value, *told)


class Calls(Told):
    def test_the_calls_of_each_kind(self):
        for thing, told in (
            (("counter", 2), (("add", 1), ("look",))),
            (("register", 2), (("look",), ("put", 0), ("put", 1), ("trade", 0), ("trade", 1))),
            (("stack", 3, 2), (("pop",), ("push", 0), ("push", 1))),
            (("queue", 3, 2), (("enter", 0), ("enter", 1), ("leave",))),
            (("set", 2), (("add", 0), ("add", 1), ("drop", 0), ("drop", 1), ("has", 0), ("has", 1))),
            (("agree", 3), (("decide", 0), ("decide", 1), ("decide", 2))),
            (("bank", (0, 0)), (
                ("look", 0), ("look", 1), ("move", 0, 1, 1), ("move", 0, 1, 2), ("move", 0, 1, 3),
                ("move", 1, 0, 1), ("move", 1, 0, 2), ("move", 1, 0, 3),
            )),
            (HIDDEN_ROW, (("do", 0), ("do", 1))),
            (EDGE_TABLE, (("do", 0), ("do", 1), ("do", 2), ("do", 3))),
        ):
            self.assertSame(calls(thing), told, thing)

    def test_how_many_there_are_at_the_greatest_sizes(self):
        for thing, many in (
            (("counter", 5), 5), (("register", 5), 11), (("stack", 3, 3), 4), (("queue", 3, 3), 4), (("set", 5), 15),
            (("agree", 5), 5), (("bank", (5, 5, 5)), 21), (EDGE_TABLE, 4),
        ):
            self.assertEqual(len(calls(thing)), many, thing)

    def test_they_ascend_and_are_unlike(self):
        for thing in OBJECTS:
            self.assertEqual(list(calls(thing)), sorted(set(calls(thing))), thing)

    def test_each_of_them_is_a_call(self):
        for thing in OBJECTS:
            for call in calls(thing):
                self.assertIs(is_call(thing, call), True)
                self.assertIs(is_call(thing, list(call)), False)
                self.assertIs(is_call(thing, call + (0,)), False)
                self.assertIs(is_call(thing, call[:-1]), False)

    def test_other_values_are_none(self):
        for thing, odd in (
            (("counter", 3), [("add", 0), ("add", 3), ("add", -1), ("add", 1.0), ("add", "1"), ("look", 0)]),
            (("register", 2), [("put", 2), ("put", -1), ("put", False), ("trade", 2), ("trade", True), ("look", 0)]),
            (("stack", 3, 1), [("push", 1), ("push", False), ("pop", 0), ("enter", 0)]),
            (("queue", 3, 1), [("enter", 1), ("enter", False), ("leave", 0), ("push", 0)]),
            (("set", 2), [("add", 2), ("drop", -1), ("has", True), ("has", None), ("add",)]),
            (("agree", 2), [("decide", 2), ("decide", False), ("decide", None), ("look",)]),
            (("bank", (1, 1)), [
                ("look",), ("look", 2), ("look", True), ("move", 0, 0, 1), ("move", 0, 1, 0), ("move", 0, 1, 4),
                ("move", 0, 2, 1), ("move", 0, 1, True), ("move", False, 1, 1), ("move", 0, 1),
            ]),
            (HIDDEN_ROW, [("do", 2), ("do", -1), ("do", False), ("do", (0,)), ("do", [0])]),
        ):
            for value in odd + OTHER_VALUES[:-2] + [("nothing",), (None,), ("do", 9), ([],), ({}, 1)]:
                self.assertIs(is_call(thing, value), False, (thing, value))
                with self.assertRaises(BadCall):
                    applied(thing, first_state(thing), value)
                with self.assertRaises(BadCall):
                    replayed(thing, (calls(thing)[0], value))


class States(Told):
    def test_the_states_of_each_kind(self):
        for thing, told in (
            (("counter", 4), (0, 1, 2, 3)),
            (("register", 3), (0, 1, 2)),
            (("stack", 2, 2), ((), (0,), (1,), (0, 0), (0, 1), (1, 0), (1, 1))),
            (("queue", 2, 2), ((), (0,), (1,), (0, 0), (0, 1), (1, 0), (1, 1))),
            (("set", 3), ((), (0,), (1,), (2,), (0, 1), (0, 2), (1, 2), (0, 1, 2))),
            (("agree", 2), (None, 0, 1)),
            (("bank", (2, 0)), ((2, 0), (1, 1), (0, 2))),
            (("bank", (0, 4)), ((0, 4), (1, 3), (2, 2), (3, 1), (4, 0))),
            (("bank", (0, 0, 0)), ((0, 0, 0),)),
            (("bank", (1, 0, 0)), ((1, 0, 0), (0, 1, 0), (0, 0, 1))),
            (HIDDEN_ROW, (0, 1)),
            (("table", (((2, 0), (1, 0)), ((3, 0), (3, 0)), ((0, 0), (3, 0)), ((3, 0), (3, 0)))), (0, 2, 1, 3)),
        ):
            self.assertSame(states(thing), told, thing)

    def test_how_many_there_are_at_the_greatest_sizes(self):
        for thing, many in (
            (("counter", 5), 5), (("register", 5), 5), (("stack", 3, 3), 40), (("queue", 3, 3), 40), (("set", 5), 32),
            (("agree", 5), 6), (("bank", (5, 5, 5)), 136), (("bank", (5, 5)), 11), (EDGE_TABLE, 6),
        ):
            self.assertEqual(len(states(thing)), many, thing)

    def test_the_first_one_stands_first(self):
        for thing in OBJECTS:
            self.assertSame(states(thing)[0], first_state(thing))
        for thing, told in (
            (("counter", 2), 0), (("register", 2), 0), (("stack", 1, 1), ()), (("queue", 1, 1), ()), (("set", 2), ()),
            (("agree", 2), None), (("bank", (0, 3, 1)), (0, 3, 1)), (EDGE_TABLE, 0),
        ):
            self.assertSame(first_state(thing), told)

    def test_they_come_in_the_order_of_their_coming(self):
        for thing in OBJECTS:
            found = [first_state(thing)]
            for state in found:
                for call in calls(thing):
                    behind = applied(thing, state, call)[0]
                    if behind not in found:
                        found.append(behind)
            self.assertSame(states(thing), tuple(found), thing)

    def test_each_of_them_is_taken_and_no_other_value(self):
        for thing in OBJECTS:
            call = calls(thing)[0]
            told = states(thing)
            odd = [
                -1, 5, 6, 0.0, (True,), (False,), [0], (0.0,), (5,), (-1,), (0, 0, 0, 0), (1, 0), (0, 0), (3, 3, 3),
                (2, True), (1, 1), (0, 1, 2, 3, 4, 5), (0, 2, 1), ((0,),), (None,), (1, -1), (16, -1), (3, -1, 0),
            ]
            for value in odd + OTHER_VALUES + [list(state) for state in told if isinstance(state, tuple)]:
                if any(same(value, state) for state in told):
                    self.assertSame(applied(thing, value, call), applied(thing, told[told.index(value)], call))
                else:
                    with self.subTest(thing=thing, value=value), self.assertRaises(BadState):
                        applied(thing, value, call)
            for state in told:
                applied(thing, state, call)

    def test_edges_of_the_states(self):
        for thing, value in (
            (("counter", 2), 2), (("register", 5), 5), (("agree", 2), 2), (("agree", 2), -1), (("stack", 1, 1), (0, 0)),
            (("stack", 1, 1), (1,)), (("queue", 3, 2), (0, 0, 0, 0)), (("queue", 3, 2), (0, 2)), (("set", 2), (0, 0)),
            (("set", 2), (1, 0)), (("set", 2), (2,)), (("bank", (2, 0)), (2, 1)), (("bank", (2, 0)), (3, -1)),
            (("bank", (2, 0, 0)), (2, 1, -1)), (("bank", (2, 0)), (2, 0, 0)), (("bank", (2, 0, 0)), (2, 0)),
            (HIDDEN_ROW, 2), (EDGE_TABLE, 6),
        ):
            with self.subTest(thing=thing, value=value), self.assertRaises(BadState):
                applied(thing, value, calls(thing)[0])


class Applied(Told):
    def tell(self, thing, rows):
        for state, call, behind, answer in rows:
            self.assertSame(applied(thing, state, call), (behind, answer), (thing, state, call))

    def test_counter(self):
        self.tell(("counter", 3), [
            (0, ("add", 1), 1, 0), (2, ("add", 1), 0, 2), (2, ("add", 2), 1, 2), (1, ("look",), 1, 1),
        ])

    def test_register(self):
        self.tell(("register", 3), [
            (0, ("look",), 0, 0), (2, ("look",), 2, 2), (1, ("put", 2), 2, None), (1, ("put", 1), 1, None),
            (1, ("trade", 0), 0, 1), (0, ("trade", 2), 2, 0),
        ])

    def test_stack(self):
        self.tell(("stack", 2, 3), [
            ((), ("push", 2), (2,), True), ((2,), ("push", 0), (2, 0), True), ((2, 0), ("push", 1), (2, 0), False),
            ((2, 0), ("pop",), (2,), 0), ((1,), ("pop",), (), 1), ((), ("pop",), (), None),
        ])

    def test_queue(self):
        self.tell(("queue", 2, 3), [
            ((), ("enter", 2), (2,), True), ((2,), ("enter", 0), (2, 0), True), ((2, 0), ("enter", 1), (2, 0), False),
            ((2, 0), ("leave",), (0,), 2), ((1,), ("leave",), (), 1), ((), ("leave",), (), None),
        ])

    def test_set(self):
        self.tell(("set", 3), [
            ((), ("add", 1), (1,), True), ((1,), ("add", 1), (1,), False), ((1,), ("add", 0), (0, 1), True),
            ((0, 2), ("add", 1), (0, 1, 2), True), ((0, 1, 2), ("drop", 1), (0, 2), True),
            ((0,), ("drop", 1), (0,), False), ((), ("drop", 0), (), False), ((0, 1), ("has", 1), (0, 1), True),
            ((0, 1), ("has", 2), (0, 1), False),
        ])

    def test_agree(self):
        self.tell(("agree", 3), [
            (None, ("decide", 2), 2, 2), (None, ("decide", 0), 0, 0), (0, ("decide", 2), 0, 0),
            (2, ("decide", 1), 2, 2),
        ])

    def test_bank(self):
        self.tell(("bank", (2, 1, 5)), [
            ((2, 1, 5), ("look", 2), (2, 1, 5), 5), ((2, 1, 5), ("look", 0), (2, 1, 5), 2),
            ((2, 1, 5), ("move", 0, 1, 2), (0, 3, 5), True), ((2, 1, 5), ("move", 0, 1, 3), (2, 1, 5), False),
            ((2, 1, 5), ("move", 1, 2, 1), (2, 0, 6), True), ((0, 0, 8), ("move", 2, 0, 3), (3, 0, 5), True),
            ((0, 0, 8), ("move", 1, 0, 1), (0, 0, 8), False),
        ])

    def test_table(self):
        self.tell(HIDDEN_ROW, [(0, ("do", 0), 1, 0), (0, ("do", 1), 0, 0), (1, ("do", 0), 0, 0), (1, ("do", 1), 1, 1)])
        self.tell(EDGE_TABLE, [(5, ("do", 0), 0, 5), (4, ("do", 1), 0, 9), (3, ("do", 2), 3, 0), (2, ("do", 3), 5, 1)])


class Replayed(Told):
    def test_no_calls_leave_the_first_state(self):
        for thing in OBJECTS:
            self.assertSame(replayed(thing, ()), ((), first_state(thing)))

    def test_calls_are_done_one_after_the_other(self):
        thing = ("stack", 2, 2)
        row = (("pop",), ("push", 1), ("push", 0), ("push", 1), ("pop",))
        self.assertSame(replayed(thing, row), ((None, True, True, False, 0), (1,)))
        self.assertSame(replayed(("queue", 2, 2), (("enter", 1), ("enter", 0), ("leave",))), ((True, True, 1), (0,)))
        self.assertSame(replayed(("counter", 2), (("add", 1),) * 31), ((0, 1) * 15 + (0,), 1))

    def test_it_is_the_same_as_call_by_call(self):
        for thing in OBJECTS:
            row = calls(thing) * 2
            state, answers = first_state(thing), ()
            for call in row:
                state, answer = applied(thing, state, call)
                answers += (answer,)
            self.assertSame(replayed(thing, row), (answers, state))

    def test_what_is_no_tuple_of_calls_is_wrong(self):
        for row in (
            [("look",)], None, ("look",), "look", 0, True, {}, (("look",), ["look"]), (("add", 2),),
            (("look",), ("add", True)), ((),), (None,), (("look",), ("look",), ("add", 0)), {("look",): 1},
        ):
            with self.subTest(row=row), self.assertRaises(BadCall):
                replayed(("counter", 2), row)


if __name__ == "__main__":
    unittest.main()
