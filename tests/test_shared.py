"""Points 8 and 9: the four ways of sharing an object, and what a weaving leads to."""

import random
import unittest

from helpedcalls.errors import BadCall, BadObject, BadPlans
from helpedcalls.histories import explained, is_history
from helpedcalls.objects import calls, first_state, replayed, states
from helpedcalls.shared import (
    alone, applied_order, bad_weaving, bound, going, history_of, last_states, most_steps, outcomes, own_steps,
    standing_count, starving, state_behind,
)
from helpedcalls.values import same
from tests.definitions import WAYS, Model, all_weavings, modelled
from tests.examples import NO_OBJECTS, OBJECTS, OTHER_VALUES

COUNTER = ("counter", 3)
ADD, TWO, LOOK = ("add", 1), ("add", 2), ("look",)
BOTH = ((ADD,), (ADD,))
# How many steps a call takes that nobody disturbs.
ALONE = {"helped": 5, "retried": 2, "locked": 4, "naive": 2}


def some_weaving(chance, way, thing, plans, most):
    """A weaving by chance, in which threads go on in bursts, with its model."""
    model, weaving = modelled(way, thing, plans, ()), []
    while model.going() and len(weaving) < most:
        thread = chance.choice(model.going())
        for _ in range(chance.randrange(1, 4)):
            if thread in model.going() and len(weaving) < most:
                model.go(thread)
                weaving.append(thread)
    return tuple(weaving), model


def runs_by_chance(many, most=400, ways=WAYS):
    chance = random.Random(15)
    for thing in OBJECTS:
        for _ in range(many):
            plans = tuple(
                tuple(chance.choice(calls(thing)) for _ in range(chance.choice([0, 1, 2, 3, 8])))
                for _ in range(chance.randrange(1, 5))
            )
            for way in ways:
                weaving, model = some_weaving(chance, way, thing, plans, chance.choice([3, 20, most]))
                yield way, thing, plans, weaving, model


class Interface(unittest.TestCase):
    def test_the_answers_that_the_interface_writes_out(self):
        thing, two = ("counter", 2), BOTH
        helped = (1, 0, 0, 0, 0, 0)
        told = (
            history_of("helped", thing, two, helped), own_steps("helped", thing, two, helped),
            applied_order("helped", thing, two, helped), state_behind("helped", thing, two, helped),
            alone("helped", thing, two, helped, 1), bound(2), outcomes("helped", thing, two),
            most_steps("retried", thing, two), most_steps("locked", thing, two), last_states("retried", thing, two),
            bad_weaving("naive", thing, two), standing_count("naive", thing, two[:1]), starving(thing, ADD, LOOK, 1),
        )
        wanted = (
            (("call", 1, ADD), ("call", 0, ADD), ("answer", 0, 0)), ((5,), (1,)), ((0, 0),), 1, 4, 11,
            (((0,), (1,)), ((1,), (0,))), ((4,), (4,)), ((None,), (None,)), (0,), (0, 1, 0, 1), 3,
            (((ADD,), (LOOK,)), (0, 1, 1, 0, 0, 0)),
        )
        self.assertTrue(same(told, wanted), told)


class Steps(unittest.TestCase):
    """Each way by hand: what stands behind each step of a weaving."""

    def tell(self, way, plans, rows):
        """Rows of the next thread, and the event, the state and the calls applied that its step leads to."""
        weaving, history, applied = (), (), ()
        for thread, events, state, called in rows:
            weaving += (thread,)
            history += tuple((word, thread, told) for word, told in events)
            applied += called
            self.assertTrue(same(history_of(way, COUNTER, plans, weaving), history), weaving)
            self.assertTrue(same(state_behind(way, COUNTER, plans, weaving), state), weaving)
            self.assertEqual(applied_order(way, COUNTER, plans, weaving), applied, weaving)

    def test_naive(self):
        self.tell("naive", ((ADD,), (TWO, LOOK)), [
            (0, [("call", ADD)], 0, ()),
            (1, [("call", TWO)], 0, ()),
            (1, [("answer", 0)], 2, ((1, 0),)),
            (1, [("call", LOOK)], 2, ()),
            (0, [("answer", 0)], 1, ((0, 0),)),
            # The look writes what it has read, too.
            (1, [("answer", 2)], 2, ((1, 1),)),
        ])

    def test_retried(self):
        self.tell("retried", ((ADD,), (LOOK, TWO)), [
            (0, [("call", ADD)], 0, ()),
            (1, [("call", LOOK)], 0, ()),
            (1, [("answer", 0)], 0, ((1, 0),)),
            # The look has swapped the count, so this swap does nothing.
            (0, [], 0, ()),
            (0, [], 0, ()),
            (1, [("call", TWO)], 0, ()),
            (0, [("answer", 0)], 1, ((0, 0),)),
            (1, [], 1, ()),
            (1, [], 1, ()),
            (1, [("answer", 1)], 0, ((1, 1),)),
        ])

    def test_locked(self):
        self.tell("locked", ((ADD,), (TWO,)), [
            (0, [("call", ADD)], 0, ()),
            (1, [("call", TWO)], 0, ()),
            (0, [], 0, ()),
            (1, [], 0, ()),
            (0, [], 1, ((0, 0),)),
            (1, [], 1, ()),
            (0, [("answer", 0)], 1, ()),
            (1, [], 1, ()),
            (1, [], 1, ()),
            (1, [], 0, ((1, 0),)),
            (1, [("answer", 1)], 0, ()),
        ])

    def test_helped(self):
        self.tell("helped", ((ADD,), (TWO, LOOK)), [
            (1, [("call", TWO)], 0, ()),
            (1, [], 0, ()),
            (0, [("call", ADD)], 0, ()),
            # The count is 0, and thread 0 has announced its call by now.
            (1, [], 0, ()),
            (1, [], 1, ((0, 0),)),
            (1, [], 1, ()),
            (1, [], 1, ()),
            (0, [("answer", 0)], 1, ()),
            (1, [], 0, ((1, 0),)),
            (1, [("answer", 1)], 0, ()),
            # The count is 2: thread 0 has announced nothing new, so the own call is chosen.
            (1, [("call", LOOK)], 0, ()),
            (1, [], 0, ()),
            (1, [], 0, ()),
            (1, [], 0, ((1, 1),)),
            (1, [("answer", 0)], 0, ()),
        ])

    def test_helped_with_a_swap_that_does_nothing(self):
        self.tell("helped", ((ADD,), (TWO,)), [
            (0, [("call", ADD)], 0, ()), (1, [("call", TWO)], 0, ()), (0, [], 0, ()), (1, [], 0, ()), (1, [], 0, ()),
            (0, [], 0, ()),
            (1, [], 1, ((0, 0),)),
            # TOP is not as it was read.
            (0, [], 1, ()),
            (0, [("answer", 0)], 1, ()),
            (1, [], 1, ()), (1, [], 1, ()), (1, [], 0, ((1, 0),)), (1, [("answer", 1)], 0, ()),
        ])

    def test_a_thread_without_calls_has_its_turn_too(self):
        # Behind the first call the count is 1: the cell of thread 1, which never announces anything.
        plans = ((ADD, ADD), (), (TWO,))
        weaving = (2,) + (0,) * 5 + (0,) * 4
        self.assertEqual(applied_order("helped", COUNTER, plans, weaving), ((0, 0), (0, 1)))
        # With two threads it is the turn of the other one.
        weaving = (1,) + (0,) * 5 + (0,) * 4
        self.assertEqual(applied_order("helped", COUNTER, ((ADD, ADD), (TWO,)), weaving), ((0, 0), (1, 0)))


class Weavings(unittest.TestCase):
    def compare(self, way, thing, plans, weaving, model):
        told = (way, thing, plans, weaving)
        self.assertTrue(same(history_of(*told), tuple(model.history)), told)
        self.assertEqual(own_steps(*told), tuple(map(tuple, model.steps)), told)
        self.assertTrue(same(state_behind(*told), model.top[1]), told)
        self.assertEqual(going(*told), tuple(model.going()), told)
        self.assertEqual(applied_order(*told), tuple(model.log), told)

    def test_all_short_weavings_are_as_the_model_says(self):
        for plans in (BOTH, ((ADD, LOOK), (TWO,)), ((LOOK,), (), (ADD,))):
            for way in WAYS:
                for weaving, model in all_weavings(way, COUNTER, plans, 9):
                    self.compare(way, COUNTER, plans, weaving, model)

    def test_long_weavings_are_as_the_model_says(self):
        for way, thing, plans, weaving, model in runs_by_chance(4):
            self.compare(way, thing, plans, weaving, model)

    def test_kinds_of_values(self):
        told = ("helped", COUNTER, BOTH, (0, 1))
        self.assertTrue(same(own_steps(*told), ((1,), (1,))))
        self.assertTrue(same(going(*told), (0, 1)))
        self.assertTrue(same(applied_order("naive", COUNTER, BOTH, (1, 1)), ((1, 0),)))
        self.assertTrue(same(going("naive", COUNTER, BOTH, (1, 1)), (0,)))
        self.assertTrue(same(going("naive", COUNTER, BOTH, (1, 1, 0, 0)), ()))

    def test_histories_of_whole_weavings_have_all_events(self):
        plans = ((ADD,) * 8, (LOOK,) * 8, (TWO,) * 8, (LOOK, ADD) * 4)
        for way in WAYS:
            weaving = (0, 1, 2, 3) * 100
            model = Model(way, COUNTER, plans)
            taken = []
            for thread in weaving:
                if thread in model.going():
                    model.go(thread)
                    taken.append(thread)
            self.compare(way, COUNTER, plans, tuple(taken), model)
        one_by_one = tuple(thread for thread in range(4) for _ in range(16))
        self.assertEqual(len(history_of("naive", COUNTER, plans, one_by_one)), 64)

    def test_calls_applied_are_the_sequence_that_explains(self):
        for way, thing, plans, weaving, _ in runs_by_chance(3, ways=("helped", "retried", "locked")):
            order = applied_order(way, thing, plans, weaving)
            answers, last = replayed(thing, tuple(plans[thread][number] for thread, number in order))
            self.assertTrue(same(last, state_behind(way, thing, plans, weaving)))
            heard = {}
            counts = [0, 0, 0, 0]
            for word, thread, told in history_of(way, thing, plans, weaving):
                if word == "answer":
                    heard[(thread, counts[thread])] = told
                    counts[thread] += 1
            applied = dict(zip(order, answers))
            self.assertEqual(len(applied), len(order))
            for pair, answer in heard.items():
                self.assertTrue(same(applied[pair], answer))

    def test_an_order_explains_each_history_but_the_naive_ones(self):
        wrong = 0
        for way, thing, plans, weaving, _ in runs_by_chance(3, most=60):
            history = history_of(way, thing, plans, weaving)
            if len(history) <= 24:
                self.assertIs(is_history(thing, history), True)
                if way == "naive":
                    wrong += explained(thing, history) is None
                else:
                    self.assertIsNotNone(explained(thing, history))
        self.assertGreater(wrong, 0)

    def test_no_call_of_helped_takes_more_steps_than_bound(self):
        most = [0] * 5
        for way, thing, plans, weaving, _ in runs_by_chance(6, ways=("helped",)):
            for counts in own_steps(way, thing, plans, weaving):
                for many in counts:
                    self.assertLessEqual(many, bound(len(plans)))
                    most[len(plans)] = max(most[len(plans)], many)
        self.assertGreater(most[4], ALONE["helped"])


class Alone(unittest.TestCase):
    def wanted(self, way, thing, plans, weaving, thread):
        model = modelled(way, thing, plans, weaving)
        if thread >= len(plans) or model.running[thread] is None:
            return 0
        ended = model.ended[thread]
        for many in range(1, 60):
            model.go(thread)
            if model.ended[thread] > ended:
                return many
        return None

    def test_it_is_as_the_model_says(self):
        found = {}
        for way, thing, plans, weaving, _ in runs_by_chance(4, most=60):
            for thread in range(4):
                wanted = self.wanted(way, thing, plans, weaving, thread)
                self.assertTrue(same(alone(way, thing, plans, weaving, thread), wanted), (way, plans, weaving, thread))
                found[(way, wanted)] = True
        for row in (("helped", 0), ("retried", 1), ("retried", 2), ("locked", None), ("locked", 1), ("naive", 1)):
            self.assertIn(row, found)

    def test_behind_all_short_weavings(self):
        for plans in (BOTH, ((ADD, LOOK), (TWO,))):
            for way in WAYS:
                for weaving, _ in all_weavings(way, COUNTER, plans, 8):
                    for thread in range(4):
                        wanted = self.wanted(way, COUNTER, plans, weaving, thread)
                        self.assertTrue(same(alone(way, COUNTER, plans, weaving, thread), wanted), (way, weaving))

    def test_edges(self):
        for way in WAYS:
            for thread in range(4):
                self.assertTrue(same(alone(way, COUNTER, BOTH, (), thread), 0))
                self.assertTrue(same(alone(way, COUNTER, ((),), (), thread), 0))
            steps = ALONE[way]
            for many in range(1, steps):
                self.assertEqual(alone(way, COUNTER, ((ADD, ADD),), (0,) * many, 0), steps - many)
            self.assertTrue(same(alone(way, COUNTER, ((ADD, ADD),), (0,) * steps, 0), 0))
            self.assertEqual(alone(way, COUNTER, ((ADD, ADD),), (0,) * (steps + 1), 0), steps - 1)
        self.assertIsNone(alone("locked", COUNTER, BOTH, (0, 1), 1))
        self.assertIsNone(alone("locked", COUNTER, BOTH, (0, 0, 0, 1), 1))
        self.assertEqual(alone("locked", COUNTER, BOTH, (0, 1, 0, 0, 0), 1), 4)
        self.assertEqual(alone("retried", COUNTER, BOTH, (0, 1, 1), 0), 3)


class Bound(unittest.TestCase):
    def test_it_is_told_for_one_to_four_threads(self):
        self.assertTrue(same(tuple(map(bound, (1, 2, 3, 4))), (8, 11, 14, 17)))


class Starving(unittest.TestCase):
    def test_retried_the_one_call_takes_so_many_steps(self):
        for thing in OBJECTS:
            call, other = calls(thing)[0], calls(thing)[-1]
            for many in range(9):
                plans, weaving = starving(thing, call, other, many)
                self.assertTrue(same(plans, ((call,), (other,) * many)))
                self.assertEqual(own_steps("retried", thing, plans, weaving), ((2 * many + 2,), (2,) * many))
                self.assertEqual(going("retried", thing, plans, weaving), ())

    def test_written_out(self):
        self.assertTrue(same(starving(COUNTER, ADD, TWO, 0), (((ADD,), ()), (0, 0))))
        self.assertTrue(same(starving(COUNTER, ADD, TWO, 2), (
            ((ADD,), (TWO, TWO)), (0, 1, 1, 0, 0, 1, 1, 0, 0, 0)
        )))
        plans, weaving = starving(COUNTER, LOOK, LOOK, 8)
        self.assertEqual((len(plans[1]), len(weaving)), (8, 34))

    def test_other_numbers_are_wrong(self):
        for many in [-1, 9, 10 ** 20, True, False, None, 1.0, "1", (1,), [1], BOTH, object()]:
            with self.subTest(many=many), self.assertRaises(BadPlans):
                starving(COUNTER, ADD, LOOK, many)

    def test_other_calls_and_objects_are_wrong(self):
        for value in OTHER_VALUES + [("add", 3), ["look"], ("add", True), ("look", 0)]:
            with self.subTest(value=value), self.assertRaises(BadCall):
                starving(COUNTER, value, LOOK, 1)
            with self.subTest(value=value), self.assertRaises(BadCall):
                starving(COUNTER, ADD, value, 9)
        for value in NO_OBJECTS:
            with self.subTest(value=value), self.assertRaises(BadObject):
                starving(value, None, None, 9)


class States(unittest.TestCase):
    def test_the_first_state_stands_ahead_of_all_steps(self):
        for thing in OBJECTS:
            for way in WAYS:
                self.assertTrue(same(state_behind(way, thing, ((),), ()), first_state(thing)))

    def test_it_is_always_one_of_the_states(self):
        for way, thing, plans, weaving, _ in runs_by_chance(2):
            self.assertIn(state_behind(way, thing, plans, weaving), states(thing))


if __name__ == "__main__":
    unittest.main()
