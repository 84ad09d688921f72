"""Point 6: histories of several objects."""

import itertools
import random
import unittest

from helpedcalls.errors import BadHistory, BadObject, BadOrders
from helpedcalls.histories import explained, in_step, is_history, order_count, shows_order
from helpedcalls.objects import calls
from helpedcalls.several import explained_all, in_step_all, is_wide_history, parts, shows_all, woven
from helpedcalls.values import same
from tests.definitions import (
    all_orders, calls_in, explains, explains_all, some_history, stands_ahead, stands_before,
)
from tests.examples import NO_OBJECTS, OBJECTS, OTHER_VALUES

COUNTER, STACK = ("counter", 3), ("stack", 1, 1)
THINGS = (COUNTER, STACK)
ADD, LOOK, PUSH, POP = ("add", 1), ("look",), ("push", 0), ("pop",)
WIDE = (("call", 0, 0, ADD), ("answer", 0, 0, 0), ("call", 0, 1, PUSH), ("answer", 0, 1, True))
FULL = (("call", 3, 0, LOOK), ("answer", 3, 0, 0), ("call", 1, 1, POP), ("answer", 1, 1, None)) * 6
# Two queues whose parts are in step, but not together: each thread finds the other's entry at the head of the queue
# into which it entered first.
QUEUES = (("queue", 3, 2), ("queue", 3, 2))
CROSSED = tuple(event for thread, place, call, answer in (
    (0, 0, ("enter", 0), True), (0, 1, ("enter", 0), True), (1, 1, ("enter", 1), True), (1, 0, ("enter", 1), True),
    (0, 0, ("leave",), 1), (1, 1, ("leave",), 0),
) for event in (("call", thread, place, call), ("answer", thread, place, answer)))
WRONG = [
    ((("answer", 0, 0, 0),), 0),
    ((("call", 0, 0, ADD), ("call", 0, 0, ADD)), 1),
    # A thread has one open call in all, and its answer comes from where it went.
    ((("call", 0, 0, ADD), ("call", 0, 1, PUSH)), 1),
    ((("call", 0, 0, ADD), ("answer", 0, 1, 0)), 1),
    ((("call", 0, 0, ADD), ("call", 1, 1, PUSH), ("answer", 1, 0, 0)), 2),
    (WIDE + (("answer", 0, 1, True),), 4),
    ((("call", 0, 2, ADD),), 0), ((("call", 0, -1, PUSH),), 0), ((("call", 0, True, PUSH),), 0),
    ((("call", 0, False, ADD),), 0), ((("call", 0, None, ADD),), 0), ((("call", 0, "0", ADD),), 0),
    ((("call", 0, (0,), ADD),), 0), ((("call", 0, 0.0, ADD),), 0), ((("call", 0, [], ADD),), 0),
    ((("call", 0, 0, PUSH),), 0), ((("call", 0, 1, ADD),), 0), ((("call", 0, 0, ["look"]),), 0),
    ((("call", 4, 0, ADD),), 0), ((("call", True, 0, ADD),), 0), ((("call", -1, 0, ADD),), 0),
    ((("call", 0, ADD),), 0), ((("call", 0, 0, 0, ADD),), 0), ((["call", 0, 0, ADD],), 0), ((None,), 0), (((),), 0),
    ((0,), 0), ((("Call", 0, 0, ADD),), 0), (((None, 0, 0, ADD),), 0),
    ((("call", 0, 0, ADD), ("answer", 0, 0, (0,))), 1), ((("call", 0, 0, ADD), ("answer", 0, 0, "0")), 1),
    ((("call", 0, 0, ADD), ("answer", 0, False, 0)), 1), ((("call", 0, 0, ADD), ("answer", False, 0, 0)), 1),
    ((("call", 0, 0, ADD), ("answer", 0, 0)), 1), ((("call", 0, 0, ADD), ("answer", 0, 0, 0.0)), 1),
    ((("call", 0, 0, ADD), ["answer", 0, 0, 0]), 1),
    (FULL + (("call", 0, 0, ADD),), 24), (FULL + (None,), 24), (FULL * 2, 24), (FULL[:23] + (None, None), 23),
]
NO_TUPLES = [None, 0, True, "", "call", b"", [], list(WIDE), {}, set(), 1.0, len, object()]
NO_THINGS = [(), THINGS * 2, (COUNTER,) * 4, list(THINGS), [COUNTER], COUNTER, None, 0, "counter", {COUNTER: 0}, (None,)]


ALL = [
    parts, explained_all, in_step_all, lambda things, history: woven(things, history, ((), ())),
    lambda things, history: shows_all(things, history, None), lambda things, history: shows_all(things, history, ()),
]


def histories_by_chance(events=(0, 1, 3, 5, 7, 8, 9, 10)):
    chance = random.Random(11)
    kinds = [COUNTER, STACK, ("queue", 2, 2), ("register", 2), ("agree", 2), ("bank", (1, 0)), ("set", 2)]
    for many in (1, 2, 3):
        for at in range(8):
            things = tuple(chance.choice(kinds) for _ in range(many))
            for length in events:
                yield things, some_history(chance, things, length, True, 0.3 * (at % 2))


class Interface(unittest.TestCase):
    def test_the_answers_that_the_interface_writes_out(self):
        told = (
            parts(THINGS, WIDE)[1], explained_all(THINGS, WIDE), shows_all(THINGS, WIDE, (1, 0)),
            woven(THINGS, WIDE, ((0,), (0,))), in_step_all(THINGS, WIDE),
        )
        wanted = ((("call", 0, PUSH), ("answer", 0, True)), (0, 1), False, (0, 1), True)
        self.assertTrue(same(told, wanted), told)


class WideHistories(unittest.TestCase):
    def test_what_is_one(self):
        for value in ((), WIDE, WIDE[:1], WIDE[:3], FULL, FULL[:23]):
            self.assertIs(is_wide_history(THINGS, value), True, value)
        for answer in (None, True, False, 0, -5, 10 ** 60):
            value = (("call", 3, 1, POP), ("answer", 3, 1, answer))
            self.assertIs(is_wide_history(THINGS, value), True)

    def test_the_first_wrong_event_is_told(self):
        for value, index in WRONG:
            self.assertIs(is_wide_history(THINGS, value), False, value)
            for function in ALL:
                with self.subTest(value=value), self.assertRaises(BadHistory) as caught:
                    function(THINGS, value)
                self.assertIs(type(caught.exception.index), int)
                self.assertEqual(caught.exception.index, index)

    def test_what_is_no_tuple_has_no_place(self):
        for value in NO_TUPLES:
            self.assertIs(is_wide_history(THINGS, value), False)
            for function in ALL:
                with self.subTest(value=value), self.assertRaises(BadHistory) as caught:
                    function(THINGS, value)
                self.assertIsNone(caught.exception.index)

    def test_one_to_three_objects_are_taken(self):
        for many in (1, 2, 3):
            self.assertIs(is_wide_history((COUNTER,) * many, (("call", 0, many - 1, ADD),)), True)
            self.assertIs(is_wide_history((COUNTER,) * many, (("call", 0, many, ADD),)), False)
        for value in NO_THINGS:
            for function in ALL + [is_wide_history]:
                with self.subTest(value=value), self.assertRaises(BadObject):
                    function(value, ())

    def test_each_of_them_must_be_an_object(self):
        for value in NO_OBJECTS:
            for things in ((value,), (value, COUNTER), (COUNTER, value), (COUNTER, STACK, value)):
                for function in ALL + [is_wide_history]:
                    with self.subTest(things=things), self.assertRaises(BadObject):
                        function(things, ())


class Parts(unittest.TestCase):
    def test_they_are_the_histories_of_the_single_objects(self):
        history = (
            ("call", 0, 0, ADD), ("call", 1, 1, PUSH), ("answer", 0, 0, 0), ("call", 0, 1, POP), ("answer", 1, 1, True),
            ("call", 2, 0, LOOK), ("answer", 0, 1, 1),
        )
        wanted = (
            (("call", 0, ADD), ("answer", 0, 0), ("call", 2, LOOK)),
            (("call", 1, PUSH), ("call", 0, POP), ("answer", 1, True), ("answer", 0, 1)),
        )
        self.assertTrue(same(parts(THINGS, history), wanted))
        self.assertEqual(parts(THINGS, ()), ((), ()))
        self.assertEqual(parts((COUNTER,), ()), ((),))

    def test_each_of_them_is_a_history(self):
        for things, history in histories_by_chance((5, 12, 24)):
            found = parts(things, history)
            self.assertEqual(len(found), len(things))
            self.assertEqual(sum(len(part) for part in found), len(history))
            for place, part in enumerate(found):
                self.assertIs(is_history(things[place], part), True)
                self.assertEqual(part, tuple((a, b, d) for a, b, c, d in history if c == place))


class Explained(unittest.TestCase):
    def test_it_is_what_all_orders_tell(self):
        found = {None: 0, tuple: 0}
        for things, history in histories_by_chance():
            orders = all_orders(things, history, stands_ahead)
            order = explained_all(things, history)
            self.assertIs(shows_all(things, history, None), orders == [])
            for row in orders:
                self.assertIs(shows_all(things, history, row), True)
            if order is None:
                self.assertEqual(orders, [])
            else:
                self.assertIn(order, orders)
            alone = [explained(thing, part) for thing, part in zip(things, parts(things, history))]
            self.assertIs(order is None, None in alone)
            found[tuple if orders else None] += 1
        self.assertGreater(min(found.values()), 20)

    def test_rows_that_are_no_orders_are_not_shown(self):
        chance = random.Random(12)
        for things, history in histories_by_chance():
            many = len(calls_in(history))
            for _ in range(6):
                row = tuple(chance.sample(range(many), chance.randrange(many + 1)))
                self.assertIs(shows_all(things, history, row), explains_all(things, history, row), (history, row))

    def test_values_of_other_kinds_are_not_shown(self):
        history = (("call", 0, 0, LOOK), ("call", 1, 1, POP), ("answer", 0, 0, 0), ("answer", 1, 1, None))
        self.assertIs(shows_all(THINGS, history, (0, 1)), True)
        self.assertIs(shows_all(THINGS, history, (1, 0)), True)
        for value in OTHER_VALUES + [
            [0, 1], (0, True), (False, 1), (0, 1.0), (0, 1, 1), (0,), (1,), (0, 2), (-1, 0), (0, 1, 2), ((0,), (0,)),
        ]:
            self.assertIs(shows_all(THINGS, history, value), False, value)

    def test_what_is_ahead_is_so_whatever_the_object(self):
        self.assertIs(shows_all(THINGS, WIDE, (0, 1)), True)
        self.assertIs(shows_all(THINGS, WIDE, (1, 0)), False)

    def test_one_part_that_is_not_explained_is_enough(self):
        wrong = WIDE[:3] + (("answer", 0, 1, 1),)
        self.assertIsNone(explained_all(THINGS, wrong))
        self.assertIs(shows_all(THINGS, wrong, None), True)
        self.assertIs(shows_all(THINGS, wrong, (0, 1)), False)
        self.assertIs(shows_all(THINGS, WIDE, None), False)
        self.assertIsNone(explained_all(QUEUES, CROSSED))

    def test_long_histories(self):
        for things, history in histories_by_chance((20, 23, 24)):
            order = explained_all(things, history)
            alone = [explained(thing, part) for thing, part in zip(things, parts(things, history))]
            self.assertIs(order is None, None in alone)
            self.assertTrue(order is None or explains_all(things, history, order))

    def test_empty_histories(self):
        self.assertEqual(explained_all(THINGS, ()), ())
        self.assertIs(shows_all(THINGS, (), ()), True)
        self.assertIs(shows_all(THINGS, (), None), False)
        self.assertIs(in_step_all(THINGS, ()), True)
        self.assertEqual(woven(THINGS, (), ((), ())), ())


class Woven(unittest.TestCase):
    def tell(self, things, history, orders):
        """The weave explains the whole, keeps each order, and has just these calls."""
        told = woven(things, history, orders)
        self.assertTrue(explains_all(things, history, told), (history, orders, told))
        for place, order in enumerate(orders):
            own = [at for at, call in enumerate(calls_in(history)) if call[1] == place]
            self.assertEqual([at for at in told if at in own], [own[at] for at in order])
        self.assertEqual(len(told), sum(len(order) for order in orders))

    def test_all_orders_of_the_parts_are_woven(self):
        many = 0
        for things, history in histories_by_chance():
            rows = [all_orders((thing,), part, stands_ahead) for thing, part in zip(things, parts(things, history))]
            for orders in itertools.islice(itertools.product(*rows), 12):
                self.tell(things, history, orders)
                many += 1
        self.assertGreater(many, 150)

    def test_long_histories(self):
        chance = random.Random(13)
        for thing in OBJECTS:
            things = (thing, COUNTER, ("set", 3))
            history = some_history(chance, things, 24, True, 0)
            self.tell(things, history, tuple(map(explained, things, parts(things, history))))

    def test_an_open_call_stands_in_it_if_it_stands_in_its_order(self):
        history = (("call", 2, 1, PUSH),) + WIDE[:2] + (("call", 1, 1, POP), ("answer", 1, 1, None))
        self.tell(THINGS, history, ((0,), (1,)))
        self.tell(THINGS, history, ((0,), (1, 0)))
        self.assertEqual(woven(THINGS, history, ((0,), (1,))), (1, 2))

    def test_other_values_are_no_orders(self):
        for orders in OTHER_VALUES + [
            ((0,),), ((0,), (0,), ()), [(0,), (0,)], ((0,), [0]), ((0,), ()), ((), (0,)), ((0,), (1,)), ((0,), None),
            (None, (0,)), ((0,), (True,)), ((False,), (0,)), ((0, 0), (0,)), ((-1,), (0,)), (0, 0), (0, 1), ((0, 1),),
            ((0,), (0.0,)), ((0, 1), ()), ((0,), (0, 1)), {(0,): (0,)},
        ]:
            with self.subTest(orders=orders), self.assertRaises(BadOrders):
                woven(THINGS, WIDE, orders)

    def test_what_does_not_explain_its_part_is_no_order(self):
        history = tuple(("call", at, 0, (ADD, LOOK)[at]) for at in (0, 1)) + (("answer", 1, 0, 1), ("answer", 0, 0, 0))
        self.assertEqual(woven((COUNTER,), history, ((0, 1),)), (0, 1))
        with self.assertRaises(BadOrders):
            woven((COUNTER,), history, ((1, 0),))
        # A part that no order explains has none, not even None.
        wrong = WIDE[:3] + (("answer", 0, 1, 1),)
        for orders in (((0,), (0,)), ((0,), None), ((0,), ())):
            with self.assertRaises(BadOrders):
                woven(THINGS, wrong, orders)

    def test_just_the_orders_of_the_parts_are_taken(self):
        for things, history in histories_by_chance((4, 7)):
            rows = []
            for part in parts(things, history):
                many = len(calls_in(part))
                rows.append([row for size in range(many + 1) for row in itertools.permutations(range(many), size)][:8])
            for orders in itertools.islice(itertools.product(*rows), 40):
                right = all(map(explains, things, parts(things, history), orders))
                self.assertIs(all(map(shows_order, things, parts(things, history), orders)), right)
                if right:
                    self.tell(things, history, orders)
                else:
                    with self.assertRaises(BadOrders):
                        woven(things, history, orders)


class InStep(unittest.TestCase):
    def test_it_is_what_all_orders_tell(self):
        found = {False: 0, True: 0}
        for things, history in histories_by_chance():
            wanted = all_orders(things, history, stands_before) != []
            self.assertIs(in_step_all(things, history), wanted, (things, history))
            found[wanted] += 1
        self.assertGreater(min(found.values()), 15)

    def test_it_may_fail_although_each_part_is_in_step(self):
        for thing, part in zip(QUEUES, parts(QUEUES, CROSSED)):
            self.assertIsNotNone(in_step(thing, part))
        self.assertIs(in_step_all(QUEUES, CROSSED), False)
        self.assertIs(in_step_all(QUEUES, CROSSED[:10]), True)

    def test_what_is_ahead_does_not_matter_between_threads(self):
        late = (("call", 0, 0, ADD), ("answer", 0, 0, 0), ("call", 1, 0, LOOK), ("answer", 1, 0, 0))
        self.assertIs(in_step_all(THINGS, late), True)
        self.assertIsNone(explained_all(THINGS, late))

    def test_one_object_is_as_the_object_alone(self):
        chance = random.Random(14)
        for thing in OBJECTS:
            history = some_history(chance, (thing,), 24)
            wide = tuple(event[:2] + (0,) + event[2:] for event in history)
            self.assertIs(in_step_all((thing,), wide), in_step(thing, history) is not None)
            self.assertIs(explained_all((thing,), wide) is None, order_count(thing, history) == 0)
            self.assertEqual(parts((thing,), wide), (history,))

    def test_open_calls_may_be_missing(self):
        history = (("call", 0, 0, ADD), ("call", 1, 1, PUSH), ("call", 2, 0, LOOK), ("answer", 2, 0, 1))
        self.assertIs(in_step_all(THINGS, history), True)
        self.assertIs(in_step_all(THINGS, history[:3] + (("answer", 2, 0, 2),)), False)

    def test_every_call_of_every_kind(self):
        for thing in OBJECTS:
            for call in calls(thing):
                self.assertIs(in_step_all((COUNTER, thing), (("call", 1, 1, call),)), True)


if __name__ == "__main__":
    unittest.main()
