"""Point 7: plans, few plans and weavings."""

import unittest

from helpedcalls.errors import BadObject, BadPlans, BadWeaving
from helpedcalls.objects import calls
from helpedcalls.shared import (
    alone, applied_order, bad_weaving, going, history_of, last_states, most_steps, outcomes, own_steps, standing_count,
    state_behind,
)
from helpedcalls.values import same
from tests.definitions import WAYS, modelled
from tests.examples import NO_OBJECTS, OBJECTS, OTHER_VALUES

COUNTER = ("counter", 3)
ADD, LOOK = ("add", 1), ("look",)


def alone_at_0(way, thing, plans, weaving):
    return alone(way, thing, plans, weaving, 0)


OF_WEAVINGS = [history_of, own_steps, state_behind, going, applied_order, alone_at_0]
OF_FEW_PLANS = [standing_count, most_steps, outcomes, last_states, bad_weaving]
PLANS = [
    ((),), ((ADD,),), ((ADD,) * 8,), ((ADD,) * 8,) * 4, ((), (), (), ()), ((LOOK, ADD), (), (ADD,)), ((), (LOOK,) * 8),
]
NO_PLANS = [
    (), ((),) * 5, ((ADD,),) * 5, ((ADD,) * 9,), ((), (ADD,) * 9), ((), (), (), (ADD,) * 9),
    [(ADD,)], ([ADD],), ((ADD,), [LOOK]), (["look"],), ((["look"],),), ((("add", 3),),), ((("add", True),),),
    ((("add", 0),),), ((LOOK, None),), ((LOOK, ("pop",)),), (LOOK,), LOOK, ((), None), ((), 0), ("look",), (("look",),),
    ((), ((),)), {(): 0}, ((), {}), ((), ""), ((0,),), ((True,),), ((), (ADD, (ADD,))),
]
FEW = [
    ((),), ((ADD,) * 4,), ((ADD,) * 4, ()), ((ADD,) * 3, (LOOK,)), ((ADD,) * 2,) * 2, ((), (ADD,) * 4), ((), (), ()),
    ((ADD,), (LOOK,), (ADD,)), ((ADD,) * 3, (), ()), ((), (ADD, LOOK), (ADD,)),
]
NOT_FEW = [
    ((ADD,) * 5,), ((ADD,) * 3, (LOOK,) * 2), ((ADD,) * 4, (LOOK,)), ((), (ADD,) * 5), ((ADD, LOOK), (ADD,), (ADD,)),
    ((ADD,) * 4, (), ()), ((), (ADD,) * 2, (ADD,) * 2), ((), (), (), ()), ((ADD,),) * 4, ((ADD,), (), (), ()),
    ((ADD,) * 8,) * 4,
]
# Rows that are no weavings, whatever the plans are.
NO_WEAVINGS = [value for value in OTHER_VALUES if not same(value, ())] + [
    [0], [], (True,), (False,), (0, True), (0, None), (4,), (-1,), (0, 4), (0, 5, 0), (0.0,), ("0",), ((0,),), "0", b"\0",
    {0: 0}, (0,) * 401, (1,) * 401, (0, 0, 4), (10 ** 30,), range(2), (ADD,),
]


class Plans(unittest.TestCase):
    def test_what_plans_are(self):
        for plans in PLANS + FEW:
            for way in WAYS:
                self.assertEqual(history_of(way, COUNTER, plans, ()), ())
                self.assertEqual(own_steps(way, COUNTER, plans, ()), ((),) * len(plans))
                self.assertEqual(going(way, COUNTER, plans, ()), tuple(t for t, plan in enumerate(plans) if plan))
                self.assertEqual(state_behind(way, COUNTER, plans, ()), 0)
                self.assertEqual(applied_order(way, COUNTER, plans, ()), ())

    def test_all_calls_of_all_objects_stand_in_plans(self):
        for thing in OBJECTS:
            for call in calls(thing):
                self.assertEqual(history_of("helped", thing, ((), (call,)), (1,)), (("call", 1, call),))

    def test_what_they_are_not(self):
        for plans in NO_PLANS + [value for value in OTHER_VALUES if not same(value, ((),))]:
            for function in OF_WEAVINGS:
                with self.subTest(function=function.__name__, plans=plans), self.assertRaises(BadPlans):
                    function("helped", COUNTER, plans, ())
            for function in OF_FEW_PLANS:
                with self.subTest(function=function.__name__, plans=plans), self.assertRaises(BadPlans):
                    function("retried", COUNTER, plans)

    def test_few_plans(self):
        for plans in FEW:
            for function in OF_FEW_PLANS:
                for way in WAYS:
                    function(way, COUNTER, plans)

    def test_what_few_plans_are_not(self):
        for plans in NOT_FEW:
            for function in OF_FEW_PLANS:
                for way in WAYS:
                    with self.subTest(function=function.__name__, plans=plans), self.assertRaises(BadPlans):
                        function(way, COUNTER, plans)
        for plans in NOT_FEW:
            self.assertEqual(history_of("naive", COUNTER, plans, ()), ())

    def test_every_function_raises_for_what_is_no_object(self):
        for value in NO_OBJECTS:
            for function in OF_WEAVINGS:
                with self.subTest(function=function.__name__, value=value), self.assertRaises(BadObject):
                    function("locked", value, (), None)
            for function in OF_FEW_PLANS:
                with self.subTest(function=function.__name__, value=value), self.assertRaises(BadObject):
                    function("naive", value, ())


class Weavings(unittest.TestCase):
    def test_what_is_no_row_of_threads_has_no_place(self):
        for weaving in NO_WEAVINGS:
            for function in OF_WEAVINGS:
                for way in WAYS:
                    with self.subTest(function=function.__name__, weaving=weaving):
                        with self.assertRaises(BadWeaving) as caught:
                            function(way, COUNTER, ((ADD,), (ADD,)), weaving)
                        self.assertIsNone(caught.exception.index)

    def test_400_threads_and_one_more(self):
        plans = ((LOOK,), (ADD,))
        weaving = (1,) + (0,) * 399
        for thread in (0, 1):
            self.assertEqual(own_steps("locked", COUNTER, plans, weaving), ((399,), (1,)))
            with self.assertRaises(BadWeaving) as caught:
                own_steps("locked", COUNTER, plans, weaving + (thread,))
            self.assertIsNone(caught.exception.index)

    def tell(self, way, plans, weaving, index):
        for function in OF_WEAVINGS:
            with self.subTest(function=function.__name__, way=way, plans=plans, weaving=weaving):
                with self.assertRaises(BadWeaving) as caught:
                    function(way, COUNTER, plans, weaving)
                self.assertIs(type(caught.exception.index), int)
                self.assertEqual(caught.exception.index, index)

    def test_a_thread_without_a_plan_has_no_step(self):
        for way in WAYS:
            self.tell(way, ((),), (0,), 0)
            self.tell(way, ((),), (3,), 0)
            self.tell(way, ((ADD,), (ADD,)), (2,), 0)
            self.tell(way, ((ADD,), (ADD,)), (0, 1, 3, 2, 0), 2)
            self.tell(way, ((ADD,), (), (ADD,)), (0, 2, 1, 1), 2)

    def test_a_thread_whose_calls_have_all_ended_has_none(self):
        for way, steps in (("helped", 5), ("retried", 2), ("locked", 4), ("naive", 2)):
            self.tell(way, ((ADD,),), (0,) * (steps + 1), steps)
            self.tell(way, ((ADD, LOOK),), (0,) * (2 * steps + 2), 2 * steps)
            self.tell(way, ((ADD,), (LOOK,)), (0,) * steps + (1,) * steps + (1, 0, 1), 2 * steps)
            self.tell(way, ((ADD,), (LOOK,)), (0,) * steps + (1, 0, 2), steps + 1)
            self.tell(way, ((LOOK,) * 8,) * 4, (2,) * (8 * steps + 1), 8 * steps)

    def test_the_first_place_is_told_for_all_weavings(self):
        plans = ((ADD,), (LOOK, ADD))
        for way in WAYS:
            for number in range(3 ** 7):
                weaving = tuple(number // 3 ** at % 3 for at in range(7))
                model, wrong = modelled(way, COUNTER, plans, ()), None
                for at, thread in enumerate(weaving):
                    if thread not in model.going():
                        wrong = at
                        break
                    model.go(thread)
                if wrong is None:
                    self.assertEqual(history_of(way, COUNTER, plans, weaving), tuple(model.history))
                elif number % 7 == 0:
                    self.tell(way, plans, weaving, wrong)


class FirstWrongArgument(unittest.TestCase):
    def test_it_comes_first(self):
        for function in OF_WEAVINGS:
            for error, told in (
                (BadObject, (("counter", 6), 0, 0)), (BadPlans, (COUNTER, (), 0)), (BadPlans, (COUNTER, None, (4,))),
                (BadPlans, (COUNTER, ((None,),), (0, 0, 0))), (BadWeaving, (COUNTER, ((ADD,),), (4, 1))),
            ):
                with self.subTest(function=function.__name__, told=told), self.assertRaises(error):
                    function("helped", *told)

    def test_a_row_that_is_no_weaving_has_no_wrong_place(self):
        with self.assertRaises(BadWeaving) as caught:
            history_of("naive", COUNTER, ((ADD,),), (3, 3, 4))
        self.assertIsNone(caught.exception.index)


if __name__ == "__main__":
    unittest.main()
