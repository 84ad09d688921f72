"""Point 13: whether the calls of a program end, and rings in which they do not."""

import functools
import itertools
import random
import unittest
from unittest import mock

from helpedcalls import rings
from helpedcalls.coded import cells_behind, code_count, code_history
from helpedcalls.ending import (
    each_alone, everybody, shows_silent, shows_starving, silent_ring, somebody, starving_ring,
)
from helpedcalls.errors import BadPlans, TooMany
from helpedcalls.programs import is_program
from helpedcalls.values import same
from tests.examples import OBJECTS, OTHER_VALUES
from tests.program_model import Graph
from tests.texts import ADD, BOTH, COUNTER, LOOK, SAMPLES, SOME_PLANS, counting, made, some_plans, some_text, text

THREE = ("counter", 3)
ONE, TWO = ("add", 1), ("add", 2)
# Each thread writes its number and ends its call if it finds it there: two threads can undo it for each other for ever.
UNDOING = made(add=("top:", "write 0 a", "read r 0", "if r = a go end", "go top", "end:", "answer 0"), cells="cells none")
# Ends at once where the cell is empty, and never behind that.
STUCK = made(add=("swap r 0 none 1", "if r = 1 go end", "top:", "read s 0", "go top", "end:", "answer 0"), cells="cells none")
# What counts waits for ever in a ring of one step, or counts from its beginning again.
STAY = ["stay:", "read z 0", "go stay"]


def turning(steps):
    return counting(steps, ["go begin"]).replace("on look", "on look\nbegin:")


@functools.cache
def graphs():
    """Programs with plans that have not too many standings, with their graphs."""
    told = [(COUNTER, value, plans) for value in SAMPLES.values() for plans in SOME_PLANS]
    told += [(THREE, UNDOING, plans) for plans in (((ONE,), (TWO,)), ((ONE,), (ONE,)), ((TWO, ONE), (TWO,)), ((ONE, TWO), (LOOK,)))]
    told += [(COUNTER, STUCK, plans) for plans in (BOTH, ((ADD,), (LOOK,)), ((LOOK,), (LOOK,)))]
    chance = random.Random(41)
    while len(told) < 500:
        thing = chance.choice(OBJECTS)
        value = some_text(chance, thing, 5)
        if is_program(thing, value):
            told.append((thing, value, some_plans(chance, thing, [(1,), (0, 1), (1, 1), (1, 1), (2, 1), (1, 1, 1)])))
    found = [(*row, Graph(*row[1:], 100)) for row in told]
    return [row for row in found if len(row[3].steps) < 100]


class Interface(unittest.TestCase):
    def test_the_answers_that_the_interface_writes_out(self):
        told = (
            each_alone(COUNTER, SAMPLES["locks"], BOTH), somebody(COUNTER, SAMPLES["locks"], BOTH),
            shows_silent(COUNTER, SAMPLES["locks"], BOTH, ((0, 1), (1,))), somebody(COUNTER, SAMPLES["tries"], BOTH),
            everybody(COUNTER, SAMPLES["tries"], BOTH), shows_starving(COUNTER, SAMPLES["tries"], BOTH, 0, ((), (0, 0))),
            everybody(COUNTER, SAMPLES["reads"], BOTH),
        )
        self.assertTrue(same(told, (False, False, True, True, False, False, True)), told)


class Endings(unittest.TestCase):
    def tell(self, thing, value, plans, wanted):
        found = (each_alone(thing, value, plans), somebody(thing, value, plans), everybody(thing, value, plans))
        self.assertTrue(same(found, wanted), (value, plans, found))

    def test_samples(self):
        yes = (True, True, True)
        for name in SAMPLES:
            for plans in (((),), ((), ()), ((), (), ()), ((LOOK,),), ((LOOK,), (LOOK,)), ((ADD,),), ((ADD,) * 4,), ((), (ADD,))):
                self.tell(COUNTER, SAMPLES[name], plans, yes)
        for plans in SOME_PLANS:
            self.tell(COUNTER, SAMPLES["reads"], plans, yes)
            self.tell(COUNTER, SAMPLES["turns"], plans, yes)
        self.tell(COUNTER, SAMPLES["tries"], BOTH, (True, True, False))
        # A look is never disturbed, and an add not by looks.
        self.tell(COUNTER, SAMPLES["tries"], ((ADD,), (LOOK,)), yes)
        self.tell(COUNTER, SAMPLES["locks"], ((ADD,), (LOOK,)), yes)
        self.tell(COUNTER, SAMPLES["locks"], ((ADD,), (ADD, LOOK)), (False, False, False))
        self.tell(COUNTER, SAMPLES["locks"], ((ADD,), (LOOK,), (ADD,)), (False, False, False))

    def test_threads_that_undo_each_other(self):
        self.tell(THREE, UNDOING, ((ONE,), (TWO,)), (True, False, False))
        self.tell(THREE, UNDOING, ((ONE,), (ONE,)), (True, True, True))
        self.tell(THREE, UNDOING, ((ONE,), (ONE, TWO)), (True, False, False))
        self.tell(THREE, UNDOING, ((ONE,), (TWO,), (LOOK,)), (True, False, False))

    def test_a_call_that_never_ends(self):
        self.tell(COUNTER, STUCK, ((LOOK,),), (True, True, True))
        self.tell(COUNTER, STUCK, ((ADD,),), (False, False, False))
        self.tell(COUNTER, STUCK, ((LOOK,), (ADD,)), (False, False, False))
        value = made(add=("top:", "set r r + 1", "read s 0", "go top"))
        self.tell(COUNTER, value, ((ADD,),), (False, False, False))
        value = made(add=("set r 0", "top:", "set r r + 1", "read s 0", "go top"))
        self.tell(COUNTER, value, ((LOOK,), (ADD,)), (False, False, False))

    def test_they_are_as_the_model_says(self):
        found = {}
        for thing, value, plans, graph in graphs():
            wanted = (graph.each_alone(), graph.somebody(), graph.everybody())
            self.tell(thing, value, plans, wanted)
            found[wanted] = found.get(wanted, 0) + 1
        self.assertEqual(sorted(found), [(False,) * 3, (True, False, False), (True, True, False), (True,) * 3])
        self.assertGreater(min(found.values()), 1, found)


class Rings(unittest.TestCase):
    def go_through(self, thing, value, plans, pair, thread=None):
        """The document's own definition, by the functions of point 12."""
        self.assertIsInstance(pair, tuple)
        weaving, ring = pair
        self.assertTrue(same(pair, tuple(map(tuple, pair))))
        self.assertGreater(len(ring), 0)
        self.assertLessEqual(len(weaving) + len(ring), 400)
        ahead, behind = code_history(thing, value, plans, weaving), code_history(thing, value, plans, weaving + ring)
        self.assertEqual(behind[:len(ahead)], ahead)
        heard = [who for word, who, _ in behind[len(ahead):] if word == "answer"]
        if thread is None:
            self.assertEqual(heard, [])
        else:
            self.assertNotIn(thread, heard)
            self.assertIn(thread, ring)
        # All steps of plans that know no such standing lead on alike: whatever follows, the cells are the same.
        chance = random.Random(42)
        threads = [who for who, plan in enumerate(plans) if plan]
        for _ in range(5):
            more = tuple(chance.choice(threads) for _ in range(min(30, 400 - len(weaving + ring))))
            self.assertEqual(
                cells_behind(thing, value, plans, weaving + more), cells_behind(thing, value, plans, weaving + ring + more))

    def test_they_are_rings(self):
        found = {True: 0, False: 0}
        for thing, value, plans, graph in graphs():
            pair = silent_ring(thing, value, plans)
            self.assertIs(pair is None, graph.somebody(), (value, plans))
            self.assertIs(shows_silent(thing, value, plans, pair), True)
            self.assertIs(shows_silent(thing, value, plans, None), pair is None)
            if pair is not None:
                self.go_through(thing, value, plans, pair)
                self.assertTrue(graph.shows(pair), (value, plans, pair))
            for thread in range(len(plans)):
                pair = starving_ring(thing, value, plans, thread)
                self.assertIs(pair is not None, graph.is_starved(thread), (value, plans, thread))
                self.assertIs(shows_starving(thing, value, plans, thread, pair), True)
                self.assertIs(shows_starving(thing, value, plans, thread, None), pair is None)
                if pair is not None:
                    self.go_through(thing, value, plans, pair, thread)
                    self.assertTrue(graph.shows(pair, thread), (value, plans, thread, pair))
                found[pair is None] += 1
        self.assertGreater(min(found.values()), 100)

    def test_all_short_pairs_are_told_apart(self):
        found = {True: 0, False: 0}
        for thing, value, plans in (
            (COUNTER, SAMPLES["locks"], BOTH), (COUNTER, SAMPLES["tries"], BOTH), (THREE, UNDOING, ((ONE,), (TWO,))),
            (COUNTER, STUCK, ((ADD,), (LOOK,))), (COUNTER, STUCK, ((), (ADD,))), (COUNTER, STUCK, ((LOOK,), (), (ADD,))),
        ):
            graph = Graph(value, plans)
            rows = [row for many in range(5) for row in itertools.product(range(len(plans)), repeat=many)]
            for pair in itertools.product([row for row in rows if len(row) < 4], rows):
                wanted = graph.shows(pair)
                found[wanted] += 1
                self.assertIs(shows_silent(thing, value, plans, pair), wanted, (value, pair))
                for thread in range(len(plans)):
                    wanted = graph.shows(pair, thread)
                    self.assertIs(shows_starving(thing, value, plans, thread, pair), wanted, (value, thread, pair))
        self.assertGreater(found[True], 20)

    def test_right_and_wrong_pairs(self):
        def silent(*pair):
            return shows_silent(COUNTER, SAMPLES["locks"], BOTH, pair)

        # Thread 0 has the lock; thread 1 tries to take it.
        self.assertIs(silent((0, 1), (1,)), True)
        self.assertIs(silent((0, 1), (1, 1, 1)), True)
        self.assertIs(silent((0, 1, 1, 0, 1), (1,)), True)
        # The first try opens the call, and sets a register.
        self.assertIs(silent((0,), (1,)), False)
        self.assertIs(silent((0, 1), ()), False)
        self.assertIs(silent((0, 1), (0,)), False)
        self.assertIs(silent((0, 1), (1, 0)), False)
        self.assertIs(silent((0, 2), (1,)), False)
        self.assertIs(silent((0, 1), (2,)), False)
        self.assertIs(silent((0, 1), (1, 2)), False)
        self.assertIs(silent((), (0,) * 12), False)

        def starving(thread, *pair):
            return shows_starving(COUNTER, SAMPLES["locks"], BOTH, thread, pair)

        self.assertIs(starving(1, (0, 1), (1,)), True)
        self.assertIs(starving(0, (0, 1), (1,)), False)
        # Behind its first calls thread 0 goes round again and again, and thread 1 tries once in each round.
        ring = (0, 1, 0, 0, 0, 0) * 2
        self.assertIs(starving(1, (0, 1, 0, 0, 0, 0), ring), True)
        self.assertIs(starving(0, (0, 1, 0, 0, 0, 0), ring), False)
        self.assertIs(silent((0, 1, 0, 0, 0, 0), ring), False)
        self.assertIs(starving(1, (), (0,) * 10), False)
        self.assertIs(starving(0, (), (0,) * 10), False)

    def test_only_pairs_of_weavings_are_shown(self):
        right = ((0, 1), (1,))
        wrong = [value for value in OTHER_VALUES if value is not None] + [
            right[0], right + ((),), (right,), [*right], list(map(list, right)), ([0, 1], (1,)), ((0, 1), [1]), (None, (1,)),
            ((0, 1), None), ((0, 1), 1), ((0, True), (1,)), ((0, 1), (True,)), ((False, 1), (1,)), ((0, 1), (1.0,)),
            ((0, 1), ("1",)), ((0, 4), (1,)), ((0, -1), (1,)), ((0, 1), (-1,)), ((0, 1), (4,)), ("01", "1"), ((), ()), ((0, 1), ()),
            ((0, 1), ((1,),)), ((0, 1), (3,)), ((3, 0, 1), (1,)), (b"\0\1", b"\1"), {0: 1}, "01",
        ]
        told = (COUNTER, SAMPLES["locks"], BOTH)
        self.assertIs(shows_silent(*told, right), True)
        self.assertIs(shows_starving(*told, 1, right), True)
        for value in wrong + [None]:
            with self.subTest(value=value):
                self.assertIs(shows_silent(*told, value), False)
                for thread in (0, 1):
                    self.assertIs(shows_starving(*told, thread, value), False)
        # Where there is no ring, None alone is right.
        told = (COUNTER, SAMPLES["reads"], BOTH)
        self.assertIs(shows_silent(*told, None), True)
        for value in wrong + [right]:
            self.assertIs(shows_silent(*told, value), False)
            self.assertIs(shows_starving(*told, 0, value), False)

    def test_written_out(self):
        for value in ("reads", "turns"):
            for plans in SOME_PLANS:
                self.assertIsNone(silent_ring(COUNTER, SAMPLES[value], plans))
                for thread in range(len(plans)):
                    self.assertIsNone(starving_ring(COUNTER, SAMPLES[value], plans, thread))
        self.assertIsNone(silent_ring(COUNTER, SAMPLES["tries"], BOTH))
        self.assertIsNotNone(starving_ring(COUNTER, SAMPLES["tries"], BOTH, 0))
        # A thread without calls has no step.
        for plans in (((), (ADD,)), ((ADD,), (), (ADD,))):
            self.assertIsNone(starving_ring(COUNTER, STUCK, plans, plans.index(())))
            self.assertIs(shows_starving(COUNTER, STUCK, plans, plans.index(()), None), True)
            self.assertIs(shows_starving(COUNTER, STUCK, plans, plans.index(()), ((), ())), False)


class Steps(unittest.TestCase):
    def test_400_steps_together_and_one_more(self):
        plans = ((LOOK,),)
        for value, pair in ((counting(399, STAY), ((0,) * 399, (0,))), (turning(399), ((0,), (0,) * 399))):
            self.assertTrue(same(silent_ring(COUNTER, value, plans), pair))
            self.assertTrue(same(starving_ring(COUNTER, value, plans, 0), pair))
            self.assertIs(shows_silent(COUNTER, value, plans, pair), True)
            self.assertIs(shows_silent(COUNTER, value, plans, None), False)
            self.assertIs(shows_starving(COUNTER, value, plans, 0, pair), True)
            self.assertIs(shows_starving(COUNTER, value, plans, 0, None), False)
            self.assertIs(shows_silent(COUNTER, value, plans, (pair[0], pair[1] * 2)), False)
            self.assertIs(shows_silent(COUNTER, value, plans, (pair[0] + pair[1], pair[1])), False)
        for value, pair in ((counting(400, STAY), ((0,) * 400, (0,))), (turning(400), ((0,), (0,) * 400))):
            self.assertIsNone(silent_ring(COUNTER, value, plans))
            self.assertIsNone(starving_ring(COUNTER, value, plans, 0))
            for right in (None, pair):
                self.assertIs(shows_silent(COUNTER, value, plans, right), right is None)
                self.assertIs(shows_starving(COUNTER, value, plans, 0, right), right is None)
            # The weaving goes on for ever, however long it is.
            self.assertIs(each_alone(COUNTER, value, plans), False)
            self.assertIs(somebody(COUNTER, value, plans), False)
            self.assertIs(everybody(COUNTER, value, plans), False)

    def test_there_is_one_whenever_so_many_steps_are_enough(self):
        found = {True: 0, False: 0}
        for thing, value, plans, graph in graphs():
            for thread in (None, *range(len(plans))):
                least = graph.least(thread)
                if least is None:
                    continue
                for most in (least - 1, least):
                    with mock.patch.object(rings, "MOST_STEPS", most):
                        if thread is None:
                            pair = silent_ring(thing, value, plans)
                            shown = shows_silent(thing, value, plans, None)
                        else:
                            pair = starving_ring(thing, value, plans, thread)
                            shown = shows_starving(thing, value, plans, thread, None)
                        self.assertIs(pair is None, most < least, (value, plans, thread, least))
                        self.assertIs(shown, most < least)
                        found[pair is None] += 1
        self.assertGreater(min(found.values()), 200, found)

    def test_the_shortest_one_can_begin_and_end_with_steps_of_others(self):
        for thing, plans, add, look, cells, wanted in (
            # Thread 1 swaps in vain or not, as thread 0 has or has not written ahead of it.
            (COUNTER, ((LOOK,), (ADD,)), ("top:", "swap s 0 r s", "if s = 1 go top", "answer no"),
             ("top:", "write 0 r", "go top"), "cells 0", 4),
            (THREE, ((LOOK,), (TWO,)), ("top:", "swap r 0 a b", "if r = 1 go top", "answer 0"),
             ("write 0 2", "answer yes"), "cells 1", 5),
        ):
            value = made(add, look, cells)
            self.assertEqual(Graph(value, plans).least(1), wanted)
            for most in (wanted - 1, wanted):
                with mock.patch.object(rings, "MOST_STEPS", most):
                    self.assertIs(starving_ring(thing, value, plans, 1) is None, most < wanted)
                    self.assertIs(shows_starving(thing, value, plans, 1, None), most < wanted)


class Wrong(unittest.TestCase):
    def test_more_than_3000_standings(self):
        for steps in (2999, 3000):
            for function, more in (
                (each_alone, ()), (somebody, ()), (everybody, ()), (silent_ring, ()), (starving_ring, (0,)),
                (shows_silent, (None,)), (shows_silent, (((), ()),)), (shows_silent, (7,)), (shows_starving, (0, None)),
                (shows_starving, (0, ((0,), (0,)))),
            ):
                told = (COUNTER, counting(steps), ((LOOK,),), *more)
                if steps < 3000:
                    function(*told)
                    continue
                with self.subTest(function=function.__name__, more=more), self.assertRaises(TooMany) as caught:
                    function(*told)
                self.assertTrue(same(caught.exception.most, 3000))

    def test_what_is_no_thread_of_the_plans(self):
        for plans in (((ADD,),), BOTH, ((), (ADD,)), ((), ()), ((ADD,), (LOOK,), (ADD,))):
            for thread in (-1, len(plans), 4, 10 ** 20, True, False, None, 0.0, "0", (0,), [0], object()):
                for function, more in ((starving_ring, ()), (shows_starving, (None,)), (shows_starving, (((0, 1), (1,)),))):
                    with self.subTest(function=function.__name__, thread=thread), self.assertRaises(BadPlans):
                        function(COUNTER, SAMPLES["locks"], plans, thread, *more)
            for thread in range(len(plans)):
                starving_ring(COUNTER, SAMPLES["locks"], plans, thread)


if __name__ == "__main__":
    unittest.main()
