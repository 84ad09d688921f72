"""Point 10: all weavings of few plans."""

import itertools
import random
import unittest

from helpedcalls.histories import explained
from helpedcalls.objects import calls, states
from helpedcalls.shared import (
    bad_weaving, bound, history_of, last_states, most_steps, outcomes, own_steps, standing_count,
)
from helpedcalls.values import same
from tests.definitions import WAYS, all_standings, all_weavings, modelled
from tests.examples import OBJECTS

COUNTER = ("counter", 2)
ADD, LOOK = ("add", 1), ("look",)
SHAPES = [
    (0,), (1,), (4,), (0, 0), (1, 0), (0, 2), (1, 1), (2, 1), (1, 2), (3, 1), (2, 2), (0, 4), (0, 0, 0), (1, 1, 1),
    (2, 0, 1), (0, 1, 1), (3, 0, 0), (0, 1, 2),
]
# Shapes with so few weavings that each one can be gone through.
TINY = [(0,), (1,), (2,), (1, 0), (0, 1), (1, 1), (0, 0, 0), (0, 1, 1)]
FREE = ("helped", "retried", "naive")
THINGS = [
    COUNTER, ("register", 3), ("stack", 1, 2), ("queue", 2, 2), ("set", 2), ("agree", 2), ("bank", (1, 0)),
    ("table", (((1, 0), (0, 3)), ((0, 1), (1, 0)))),
]


def some_plans(chance, thing, shape):
    return tuple(tuple(chance.choice(calls(thing)) for _ in range(many)) for many in shape)


def by_chance(shapes, things=tuple(THINGS), ways=WAYS):
    chance = random.Random(16)
    for at, thing in enumerate(things):
        for shape in shapes:
            yield ways[(at + len(shape)) % len(ways)], thing, some_plans(chance, thing, shape)


def rank(answer):
    """The order of answers: None, False, True, integers."""
    if type(answer) is int:
        return (3, answer)
    return ((None, False, True).index(answer), 0)


def answers_in(history, many):
    return tuple(
        tuple(told for word, who, told in history if (word, who) == ("answer", thread)) for thread in range(many))


class Standings(unittest.TestCase):
    def test_counted_by_hand(self):
        one, two = ((ADD,),), ((ADD,), (ADD,))
        for way, plans, many in (
            ("naive", one, 3), ("naive", ((ADD,) * 4,), 9), ("naive", two, 12),
            # Cell 0: both ahead of their calls, either behind the reading, or both; 1: the other one ahead, behind
            # either reading, or behind a swap that did nothing; 2: both have ended.
            ("retried", one, 3), ("retried", ((ADD,) * 4,), 9), ("retried", two, 4 + 2 * 4 + 1),
            ("locked", one, 5), ("locked", ((ADD,) * 4,), 17),
            # Nobody has the lock and both are ahead of their calls; one has it, at any of three steps, and the other
            # one has or has not tried to take it; one has ended, and the other one has never tried, or has tried, or
            # is at one of three steps; both have ended.
            ("locked", two, 1 + 2 * 3 * 2 + 2 * 5 + 1),
            ("helped", one, 6), ("helped", ((ADD,) * 4,), 21),
        ):
            self.assertTrue(same(standing_count(way, COUNTER, plans), many), (way, plans))

    def test_plans_without_calls_have_one(self):
        for way in WAYS:
            for plans in (((),), ((), ()), ((), (), ())):
                self.assertTrue(same(standing_count(way, COUNTER, plans), 1))

    def test_they_are_as_many_as_the_model_meets(self):
        for shape in SHAPES:
            chance = random.Random(17)
            for way in WAYS:
                thing = chance.choice(THINGS)
                plans = some_plans(chance, thing, shape)
                self.assertEqual(standing_count(way, thing, plans), len(all_standings(way, thing, plans)), (way, plans))

    def test_what_a_thread_has_read_counts(self):
        # Behind 0 0 1 and behind 1 0 0 the cells are alike, but thread 1 has read other states.
        plans = ((ADD,), (LOOK,))
        told = {modelled("naive", COUNTER, plans, weaving).standing() for weaving in ((0, 0, 1), (1, 0, 0))}
        self.assertEqual(len(told), 2)
        self.assertEqual(standing_count("naive", COUNTER, plans), len(all_standings("naive", COUNTER, plans)))

    def test_the_chosen_call_counts(self):
        # Thread 1 reads thread 0's cell ahead of the call that 0 announces, or behind it.
        plans = ((ADD,), (ADD,))
        told = {modelled("helped", COUNTER, plans, row).standing() for row in ((1, 1, 1, 0), (1, 1, 0, 1))}
        self.assertEqual(len(told), 2)
        self.assertEqual(standing_count("helped", COUNTER, plans), 63)


class MostSteps(unittest.TestCase):
    def test_it_is_what_all_weavings_tell(self):
        for shape in TINY + [(1, 2)]:
            for way in FREE:
                plans = some_plans(random.Random(18), COUNTER, shape)
                most = [[0] * many for many in shape]
                for _, model in all_weavings(way, COUNTER, plans):
                    for row, counts in zip(most, model.steps):
                        row[:len(counts)] = map(max, row, counts)
                self.assertTrue(same(most_steps(way, COUNTER, plans), tuple(map(tuple, most))), (way, plans))

    def test_a_call_that_nobody_disturbs(self):
        for way, steps in (("helped", 5), ("retried", 2), ("locked", 4), ("naive", 2)):
            self.assertTrue(same(most_steps(way, COUNTER, ((ADD, LOOK, ADD, LOOK),)), ((steps,) * 4,)))
            self.assertTrue(same(most_steps(way, COUNTER, ((), (ADD, LOOK), ())), ((), (steps,) * 2, ())))
            self.assertTrue(same(most_steps(way, COUNTER, ((), ())), ((), ())))

    def test_locked_there_is_no_greatest_beside_another_call(self):
        for shape in SHAPES:
            plans = some_plans(random.Random(19), COUNTER, shape)
            steps = None if sum(many > 0 for many in shape) > 1 else 4
            self.assertEqual(most_steps("locked", COUNTER, plans), tuple((steps,) * many for many in shape))

    def test_the_others_have_a_greatest_one(self):
        for way, thing, plans in by_chance(SHAPES, ways=FREE):
            for row, plan in zip(most_steps(way, thing, plans), plans):
                self.assertEqual(len(row), len(plan))
                for many in row:
                    others = sum(map(len, plans)) - len(plan)
                    if way == "helped":
                        self.assertTrue(5 <= many <= bound(len(plans)))
                    elif way == "retried":
                        self.assertEqual(many, 2 * others + 2)
                    else:
                        self.assertEqual(many, 2)

    def test_helped_a_weaving_reaches_the_bound_of_two_threads(self):
        plans = ((ADD,), (ADD, ADD))
        weaving = (1, 1, 1, 0, 0, 0, 1, 0, 0, 1, 1, 0, 0, 0, 0, 0, 0)
        self.assertEqual(own_steps("helped", COUNTER, plans, weaving), ((11,), (5, 1)))
        self.assertEqual(most_steps("helped", COUNTER, plans), ((bound(2),), (8, 8)))
        self.assertEqual(most_steps("helped", COUNTER, ((ADD,), (ADD,))), ((8,), (8,)))


class Outcomes(unittest.TestCase):
    def test_they_are_what_all_weavings_tell(self):
        for shape in TINY:
            for thing in THINGS[:5]:
                plans = some_plans(random.Random(20), thing, shape)
                for way in FREE:
                    told, left = set(), set()
                    for _, model in all_weavings(way, thing, plans):
                        if not model.going():
                            told.add(answers_in(model.history, len(plans)))
                            left.add(model.top[1])
                    wanted = sorted(told, key=lambda rows: [[rank(answer) for answer in row] for row in rows])
                    self.assertTrue(same(outcomes(way, thing, plans), tuple(wanted)), (way, plans))
                    wanted = tuple(state for state in states(thing) if state in left)
                    self.assertTrue(same(last_states(way, thing, plans), wanted))

    def test_but_for_naive_they_are_those_of_one_caller(self):
        """The answers that the calls have one after the other, in all sequences that keep those of the threads."""
        for way, thing, plans in by_chance(SHAPES, ways=("helped", "retried", "locked")):
            threads = [thread for thread, plan in enumerate(plans) for _ in plan]
            told, left = set(), set()
            for row in set(itertools.permutations(threads)):
                weaving = tuple(thread for thread in row for _ in range(2))
                told.add(answers_in(history_of("retried", thing, plans, weaving), len(plans)))
                left.add(modelled("retried", thing, plans, weaving).top[1])
            wanted = sorted(told, key=lambda rows: [[rank(answer) for answer in row] for row in rows])
            self.assertTrue(same(outcomes(way, thing, plans), tuple(wanted)), (way, thing, plans))
            self.assertEqual(last_states(way, thing, plans), tuple(state for state in states(thing) if state in left))

    def test_the_order_of_answers(self):
        pop, push = ("pop",), ("push", 1)
        told = outcomes("retried", ("stack", 1, 2), ((pop, push), (push, pop)))
        wanted = tuple(sorted(told, key=lambda rows: [[rank(answer) for answer in row] for row in rows]))
        self.assertTrue(same(told, wanted))
        self.assertTrue(same(told, (
            ((None, False), (True, 1)), ((None, True), (False, 1)), ((None, True), (True, 1)), ((1, True), (True, None)),
            ((1, True), (True, 1)),
        )), told)
        agreed = outcomes("locked", ("agree", 2), ((("decide", 1),), (("decide", 0),)))
        self.assertTrue(same(agreed, (((0,), (0,)), ((1,), (1,)))))
        self.assertTrue(same(outcomes("naive", ("set", 2), ((("add", 0),), (("add", 0),))), (
            ((False,), (True,)), ((True,), (False,)), ((True,), (True,)),
        )))

    def test_plans_without_calls(self):
        for way in WAYS:
            for plans in (((),), ((), ()), ((), (), ())):
                self.assertTrue(same(outcomes(way, COUNTER, plans), (plans,)))
                self.assertTrue(same(last_states(way, COUNTER, plans), (0,)))
                self.assertIsNone(bad_weaving(way, COUNTER, plans))

    def test_a_lost_call_leaves_another_state(self):
        plans = ((ADD,), (ADD,))
        self.assertTrue(same(outcomes("naive", COUNTER, plans), (((0,), (0,)), ((0,), (1,)), ((1,), (0,)))))
        self.assertTrue(same(last_states("naive", COUNTER, plans), (0, 1)))
        self.assertTrue(same(last_states("helped", COUNTER, plans), (0,)))

    def test_last_states_stand_in_the_order_of_states(self):
        # The states of the table come as 0, 2, 1.
        table = ("table", (((2, 0), (1, 0)), ((1, 0), (1, 0)), ((1, 0), (2, 0))))
        self.assertEqual(states(table), (0, 2, 1))
        plans = ((("do", 0),), (("do", 1),))
        self.assertEqual(last_states("naive", table, plans), (2, 1))
        register = ("register", 3)
        plans = ((("put", 2),), (("put", 1),))
        self.assertEqual(last_states("locked", register, plans), (1, 2))
        for way, thing, plans in by_chance(SHAPES):
            found = last_states(way, thing, plans)
            self.assertEqual(found, tuple(state for state in states(thing) if state in found))


class BadWeavings(unittest.TestCase):
    def test_it_is_the_first_of_all_weavings(self):
        found = 0
        for shape in TINY + [(2, 1), (1, 2), (2, 2), (3, 1)]:
            for thing in THINGS:
                plans = some_plans(random.Random(21), thing, shape)
                wanted = None
                for weaving, model in all_weavings("naive", thing, plans):
                    if explained(thing, tuple(model.history)) is None:
                        wanted = weaving
                        break
                self.assertTrue(same(bad_weaving("naive", thing, plans), wanted), (thing, plans))
                found += wanted is not None
        self.assertGreater(found, 10)

    def test_no_other_way_has_one(self):
        for way in ("helped", "retried", "locked"):
            for thing in OBJECTS:
                for shape in ((2, 2), (1, 1, 1), (3, 1)):
                    self.assertIsNone(bad_weaving(way, thing, some_plans(random.Random(22), thing, shape)))

    def test_it_is_wrong_only_at_its_end(self):
        for _, thing, plans in by_chance(SHAPES):
            weaving = bad_weaving("naive", thing, plans)
            if weaving is not None:
                self.assertIsNone(explained(thing, history_of("naive", thing, plans, weaving)))
                self.assertIsNotNone(explained(thing, history_of("naive", thing, plans, weaving[:-1])))

    def test_written_out(self):
        self.assertTrue(same(bad_weaving("naive", COUNTER, ((ADD,), (ADD,))), (0, 1, 0, 1)))
        self.assertTrue(same(bad_weaving("naive", COUNTER, ((), (ADD,), (ADD,))), (1, 2, 1, 2)))
        # A look answers rightly whatever it overwrites; the call that it takes back is missed by the one behind.
        self.assertTrue(same(bad_weaving("naive", COUNTER, ((LOOK,), (ADD, LOOK))), (0, 1, 1, 0, 1, 1)))
        self.assertIsNone(bad_weaving("naive", COUNTER, ((LOOK,), (ADD,))))
        self.assertIsNone(bad_weaving("naive", COUNTER, ((LOOK, LOOK), (LOOK, LOOK))))
        self.assertIsNone(bad_weaving("naive", COUNTER, ((ADD,) * 4,)))


if __name__ == "__main__":
    unittest.main()
