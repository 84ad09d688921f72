"""Points 4 and 5: histories of an object, and their orders."""

import random
import unittest

from helpedcalls.errors import BadHistory, BadObject
from helpedcalls.histories import (
    explained, first_wrong, in_step, is_history, order_count, shows_in_step, shows_order, spans, whole, written,
)
from helpedcalls.objects import calls, replayed
from helpedcalls.values import same
from tests.definitions import all_orders, explains, some_history, stands_ahead, stands_before, stands_in_step
from tests.examples import NO_OBJECTS, OBJECTS, OTHER_VALUES

COUNTER = ("counter", 3)
ADD, LOOK = ("add", 1), ("look",)
LATE = (("call", 0, ADD), ("answer", 0, 0), ("call", 1, LOOK), ("answer", 1, 0))
OPEN_ONE = (("call", 0, ADD), ("call", 1, LOOK), ("answer", 1, 1))
FULL = (("call", 3, LOOK), ("answer", 3, 0)) * 12
SMALL = [
    ("counter", 2), ("register", 2), ("stack", 1, 2), ("queue", 2, 1), ("set", 2), ("agree", 2), ("bank", (1, 0)),
    ("table", (((1, 0), (0, 0)), ((0, 1), (1, 1)))),
]
# Pairs of a tuple that is no history of COUNTER and the place of its first wrong event.
WRONG = [
    ((("answer", 0, 0),), 0),
    ((("call", 0, ADD), ("call", 0, ADD)), 1),
    ((("call", 0, ADD), ("answer", 1, 0)), 1),
    (LATE[:2] + (("answer", 0, 0),), 2),
    (LATE + (("call", 0, ADD), ("call", 1, ADD), ("call", 0, LOOK)), 6),
    ((("call", 4, ADD),), 0), ((("call", -1, ADD),), 0), ((("call", True, ADD),), 0), ((("call", False, ADD),), 0),
    ((("call", None, ADD),), 0), ((("call", 0.0, ADD),), 0), ((("call", "0", ADD),), 0), ((("call", (0,), ADD),), 0),
    ((("call", 0, ("add", 3)),), 0), ((("call", 0, ("add", True)),), 0), ((("call", 0, ["look"]),), 0),
    ((("call", 0, None),), 0), ((("call", 0, "look"),), 0), ((("call", 0, ("look", 0)),), 0),
    ((["call", 0, ADD],), 0), ((("call", 0),), 0), ((("call", 0, ADD, 0),), 0), ((("call", 0, 0, ADD),), 0),
    (((),), 0), ((None,), 0), ((0,), 0), (("call",), 0), ((ADD,), 0),
    ((("calls", 0, ADD),), 0), ((("Call", 0, ADD),), 0), (((b"call", 0, ADD),), 0), (((None, 0, ADD),), 0),
    (((("call",), 0, ADD),), 0), ((("", 0, ADD),), 0),
    ((("call", 0, ADD), ("answer", 0, (0,))), 1), ((("call", 0, ADD), ("answer", 0, "0")), 1),
    ((("call", 0, ADD), ("answer", 0, 0.0)), 1), ((("call", 0, ADD), ("answer", 0, [])), 1),
    ((("call", 0, ADD), ("answer", 0, ADD)), 1), ((("call", 0, ADD), ("answer", 0)), 1),
    ((("call", 0, ADD), ["answer", 0, 0]), 1), ((("call", 0, ADD), ("answer", False, 0)), 1),
    ((("call", 0, ADD), ("answer", 0, 0, 0)), 1), ((("call", 0, ADD), ("hears", 0, 0)), 1),
    ((("call", 0, ADD), None, ("call", 0, ADD)), 1),
    (FULL + (("call", 0, ADD),), 24), (FULL + (None,), 24), (FULL * 2, 24), (FULL + (("answer", 0, 0),), 24),
    (FULL[:23] + (None, None), 23), (FULL[:22] + (("answer", 3, 0),) + FULL, 22),
]
NO_TUPLES = [None, 0, True, "", "call", b"", [], list(LATE), {}, {0: LATE[0]}, set(), 1.0, iter(LATE), len, object()]
ALL = [spans, written, explained, order_count, first_wrong, in_step]
JUDGES = [shows_order, shows_in_step]


class Interface(unittest.TestCase):
    def test_the_answers_that_the_interface_writes_out(self):
        told = (
            explained(COUNTER, LATE), first_wrong(COUNTER, LATE), in_step(COUNTER, LATE), explained(COUNTER, OPEN_ONE),
            order_count(COUNTER, OPEN_ONE), shows_order(COUNTER, OPEN_ONE, (1, 0)), spans(COUNTER, OPEN_ONE),
            written(COUNTER, whole(COUNTER, ((0, ADD), (1, LOOK)))),
        )
        wanted = (
            None, 3, (1, 0), (0, 1), 1, False, ((0, ADD, 0, None), (1, LOOK, 1, 2)),
            "0 calls add 1\n0 hears 0\n1 calls look\n1 hears 1\n",
        )
        self.assertTrue(same(told, wanted), told)


class Histories(unittest.TestCase):
    def test_what_is_one(self):
        for value in ((), LATE, OPEN_ONE, FULL, FULL[:23], LATE[:1], tuple(("call", t, LOOK) for t in range(4))):
            self.assertIs(is_history(COUNTER, value), True, value)
            self.assertIsInstance(spans(COUNTER, value), tuple)

    def test_answers_need_not_be_the_objects(self):
        for answer in (None, True, False, 0, -1, 7, 10 ** 60):
            for thing in OBJECTS:
                self.assertIs(is_history(thing, (("call", 2, calls(thing)[0]), ("answer", 2, answer))), True)

    def test_calls_of_other_objects_are_wrong(self):
        history = (("call", 0, ("push", 1)), ("answer", 0, True))
        self.assertIs(is_history(("stack", 1, 2), history), True)
        self.assertIs(is_history(("stack", 1, 1), history), False)
        self.assertIs(is_history(("queue", 1, 2), history), False)

    def test_the_first_wrong_event_is_told(self):
        for value, index in WRONG:
            self.assertIs(is_history(COUNTER, value), False, value)
            for function in ALL + JUDGES:
                with self.subTest(function=function.__name__, value=value):
                    with self.assertRaises(BadHistory) as caught:
                        function(COUNTER, value, *((),) * (function in JUDGES))
                    self.assertIs(type(caught.exception.index), int)
                    self.assertEqual(caught.exception.index, index)

    def test_what_is_no_tuple_has_no_place(self):
        for value in NO_TUPLES:
            self.assertIs(is_history(COUNTER, value), False)
            for function in ALL + JUDGES:
                with self.subTest(function=function.__name__, value=value):
                    with self.assertRaises(BadHistory) as caught:
                        function(COUNTER, value, *((),) * (function in JUDGES))
                    self.assertIsNone(caught.exception.index)

    def test_every_beginning_of_a_history_is_one(self):
        chance = random.Random(4)
        for thing in OBJECTS:
            history = some_history(chance, (thing,), 24)
            self.assertTrue(all(is_history(thing, history[:many]) for many in range(25)))
            self.assertFalse(is_history(thing, history + history[:1]))

    def test_every_function_raises_for_what_is_no_object(self):
        for value in NO_OBJECTS:
            for function in ALL + JUDGES + [is_history, whole]:
                with self.subTest(function=function.__name__, value=value), self.assertRaises(BadObject):
                    function(value, (), *((),) * (function in JUDGES))


class Spans(unittest.TestCase):
    def test_calls_come_by_their_beginnings(self):
        history = (
            ("call", 2, ADD), ("call", 0, LOOK), ("answer", 2, 0), ("call", 2, LOOK), ("call", 1, ADD),
            ("answer", 0, 1), ("answer", 1, None),
        )
        wanted = ((2, ADD, 0, 2), (0, LOOK, 1, 5), (2, LOOK, 3, None), (1, ADD, 4, 6))
        self.assertTrue(same(spans(COUNTER, history), wanted))
        self.assertEqual(spans(COUNTER, ()), ())
        self.assertEqual(spans(COUNTER, FULL), tuple((3, LOOK, at, at + 1) for at in range(0, 24, 2)))

    def test_they_tell_the_whole_history_but_the_answers(self):
        chance = random.Random(5)
        for thing in OBJECTS:
            history = some_history(chance, (thing,), 24)
            events = {}
            for thread, call, begin, end in spans(thing, history):
                events[begin] = ("call", thread, call)
                if end is not None:
                    events[end] = ("answer", thread)
            told = tuple(event if event[0] == "call" else event[:2] for event in history)
            self.assertEqual(tuple(events[at] for at in sorted(events)), told)


class Whole(unittest.TestCase):
    def test_each_call_is_answered_at_once(self):
        row = ((3, ("push", 1)), (0, ("pop",)), (0, ("pop",)))
        wanted = (
            ("call", 3, ("push", 1)), ("answer", 3, True), ("call", 0, ("pop",)), ("answer", 0, 1),
            ("call", 0, ("pop",)), ("answer", 0, None),
        )
        self.assertTrue(same(whole(("stack", 1, 2), row), wanted))
        self.assertEqual(whole(COUNTER, ()), ())

    def test_it_is_a_history_that_its_own_sequence_explains(self):
        for thing in OBJECTS:
            row = tuple((at % 4, call) for at, call in enumerate((calls(thing) * 12)[:12]))
            history = whole(thing, row)
            self.assertEqual(len(history), 24)
            self.assertIs(is_history(thing, history), True)
            self.assertEqual(explained(thing, history), tuple(range(12)))
            self.assertEqual(order_count(thing, history), 1)
            answers = tuple(event[2] for event in history if event[0] == "answer")
            self.assertTrue(same(answers, replayed(thing, tuple(call for _, call in row))[0]))

    def test_what_is_no_row_or_a_longer_one_has_no_place(self):
        self.assertEqual(len(whole(COUNTER, ((0, LOOK),) * 12)), 24)
        for value in NO_TUPLES + [((0, LOOK),) * 13, (None,) * 13, [(0, LOOK)]]:
            with self.subTest(value=value), self.assertRaises(BadHistory) as caught:
                whole(COUNTER, value)
            self.assertIsNone(caught.exception.index)

    def test_the_first_wrong_pair_is_told(self):
        good = (2, LOOK)
        for pair in OTHER_VALUES + [
            (0,), (0, LOOK, 0), [0, LOOK], (4, LOOK), (-1, LOOK), (True, LOOK), (0, ("add", 3)), (0, ("add", True)),
            (0, ["look"]), (LOOK, 0), (0, None), (None, LOOK), (0.0, LOOK),
        ]:
            for ahead in (0, 1, 11):
                value = (good,) * ahead + (pair,) + (None,) * (ahead < 11)
                with self.subTest(value=value), self.assertRaises(BadHistory) as caught:
                    whole(COUNTER, value)
                self.assertEqual(caught.exception.index, ahead)


class Written(unittest.TestCase):
    def test_a_line_for_each_event(self):
        history = (
            ("call", 0, ("move", 0, 1, 3)), ("answer", 0, True), ("call", 3, ("look", 1)), ("call", 1, ("look", 0)),
            ("answer", 1, False), ("answer", 3, None), ("call", 1, ("look", 0)), ("answer", 1, -12),
        )
        self.assertEqual(written(("bank", (2, 0)), history), (
            "0 calls move 0 1 3\n0 hears true\n3 calls look 1\n1 calls look 0\n1 hears false\n3 hears none\n"
            "1 calls look 0\n1 hears -12\n"
        ))

    def test_edges(self):
        self.assertEqual(written(COUNTER, ()), "")
        self.assertEqual(written(COUNTER, OPEN_ONE), "0 calls add 1\n1 calls look\n1 hears 1\n")
        self.assertEqual(written(COUNTER, FULL), "3 calls look\n3 hears 0\n" * 12)
        for answer, word in ((0, "0"), (1, "1"), (True, "true"), (False, "false"), (None, "none")):
            history = (("call", 2, LOOK), ("answer", 2, answer))
            self.assertEqual(written(COUNTER, history), f"2 calls look\n2 hears {word}\n")


def histories_by_chance():
    chance = random.Random(6)
    for thing in SMALL:
        for events in (0, 1, 2, 3, 5, 7, 8, 9, 10):
            for _ in range(4):
                yield thing, some_history(chance, (thing,), events)


class Explained(unittest.TestCase):
    def test_the_empty_history(self):
        for thing in OBJECTS:
            self.assertEqual(explained(thing, ()), ())
            self.assertEqual(in_step(thing, ()), ())
            self.assertEqual(order_count(thing, ()), 1)
            self.assertIsNone(first_wrong(thing, ()))
            for judge in JUDGES:
                self.assertIs(judge(thing, (), ()), True)
                self.assertIs(judge(thing, (), None), False)
                self.assertIs(judge(thing, (), (0,)), False)

    def tell(self, find, show, rule, least):
        """What is found is one of all orders that keep to a rule, and these are what is shown; tells how many."""
        counts, found = [], {True: 0, False: 0}
        for thing, history in histories_by_chance():
            orders = all_orders((thing,), history, rule)
            order = find(thing, history)
            self.assertIn(order, orders or [None])
            self.assertIs(show(thing, history, None), orders == [])
            for row in orders:
                self.assertIs(show(thing, history, row), True)
            found[orders == []] += 1
            counts.append((thing, history, len(orders)))
        self.assertGreater(min(found.values()), least)
        return counts

    def test_it_is_what_all_orders_tell(self):
        for thing, history, many in self.tell(explained, shows_order, stands_ahead, 30):
            self.assertTrue(same(order_count(thing, history), many))

    def test_in_step_is_what_all_orders_tell(self):
        self.tell(in_step, shows_in_step, stands_before, 20)

    def test_rows_that_are_no_orders_are_not_shown(self):
        chance = random.Random(7)
        for thing, history in histories_by_chance():
            many = len(spans(thing, history))
            rows = [tuple(chance.sample(range(many), chance.randrange(many + 1))) for _ in range(6)]
            rows += [(order or ()) + (0,) for order in (explained(thing, history),)]
            for row in rows:
                self.assertIs(shows_order(thing, history, row), explains(thing, history, row), (history, row))
                self.assertIs(shows_in_step(thing, history, row), stands_in_step(thing, history, row), (history, row))

    def test_values_of_other_kinds_are_not_shown(self):
        good = (("call", 0, LOOK), ("call", 1, LOOK), ("answer", 0, 0), ("answer", 1, 0))
        for judge in JUDGES:
            self.assertIs(judge(COUNTER, good, (0, 1)), True)
            self.assertIs(judge(COUNTER, good, (1, 0)), True)
            for value in OTHER_VALUES + [
                [0, 1], (0, True), (False, 1), (0, 1.0), (0, 1, 1), (0, 0, 1), (0,), (1,), (), (0, 2), (-1, 0), (0, 1, 2),
                (0, "1"), ((0,), (1,)), (0, None), {0: 1}, "01", (0, -1),
            ]:
                self.assertIs(judge(COUNTER, good, value), False, value)

    def test_long_histories(self):
        chance = random.Random(8)
        for thing in OBJECTS:
            for events in (20, 23, 24):
                true = some_history(chance, (thing,), events, lie=0)
                self.assertTrue(explains(thing, true, explained(thing, true)))
                self.assertTrue(stands_in_step(thing, true, in_step(thing, true)))
                self.assertGreater(order_count(thing, true), 0)
                self.assertIsNone(first_wrong(thing, true))
                history = some_history(chance, (thing,), events)
                order = explained(thing, history)
                self.assertIs(order is None, order_count(thing, history) == 0)
                self.assertTrue(order is None or explains(thing, history, order))
                self.assertIs(shows_order(thing, history, None), order is None)
                order = in_step(thing, history)
                self.assertTrue(order is None or stands_in_step(thing, history, order))
                self.assertIs(shows_in_step(thing, history, None), order is None)

    def test_a_call_that_is_ahead_stands_ahead(self):
        history = whole(COUNTER, ((0, LOOK), (1, LOOK)))
        self.assertIs(shows_order(COUNTER, history, (0, 1)), True)
        self.assertIs(shows_order(COUNTER, history, (1, 0)), False)
        self.assertIs(shows_in_step(COUNTER, history, (1, 0)), True)
        own = whole(COUNTER, ((0, LOOK), (0, LOOK)))
        self.assertIs(shows_in_step(COUNTER, own, (1, 0)), False)
        self.assertEqual(order_count(COUNTER, history), 1)
        together = tuple(("call", t, LOOK) for t in range(4)) + tuple(("answer", t, 0) for t in range(4))
        self.assertEqual(order_count(COUNTER, together), 24)

    def test_answers_of_other_kinds_are_not_the_same(self):
        for answer, told in ((0, 1), (False, 0), (None, 0), (1, 0)):
            history = (("call", 0, LOOK), ("answer", 0, answer))
            self.assertEqual(order_count(COUNTER, history), told)
            self.assertIs(explained(COUNTER, history) is None, told == 0)
            self.assertIs(in_step(COUNTER, history) is None, told == 0)
            self.assertEqual(first_wrong(COUNTER, history), None if told else 1)
        for answer, told in ((True, 1), (1, 0)):
            self.assertEqual(order_count(("set", 2), (("call", 0, ("add", 0)), ("answer", 0, answer))), told)

    def test_open_calls_stand_in_an_order_or_do_not(self):
        waiting = (("call", 0, ADD), ("call", 1, ADD), ("call", 2, LOOK), ("answer", 2, 1))
        self.assertEqual(all_orders((COUNTER,), waiting, stands_ahead), [(0, 2), (1, 2), (0, 2, 1), (1, 2, 0)])
        self.assertEqual(order_count(COUNTER, waiting), 4)
        self.assertIn(explained(COUNTER, waiting), [(0, 2), (1, 2), (0, 2, 1), (1, 2, 0)])
        alone = (("call", 0, ADD),)
        self.assertEqual(order_count(COUNTER, alone), 2)
        for judge in JUDGES:
            self.assertEqual([judge(COUNTER, alone, row) for row in ((), (0,), (0, 0), None)], [True, True, False, False])
        # Only the open call's end would be ahead of others: it may stand wherever it likes behind its beginning.
        late = whole(COUNTER, ((1, LOOK),)) + (("call", 0, ADD),) + (("call", 1, LOOK), ("answer", 1, 0))
        self.assertEqual(all_orders((COUNTER,), late, stands_ahead), [(0, 2), (0, 2, 1)])
        self.assertEqual(order_count(COUNTER, late), 2)


class FirstWrong(unittest.TestCase):
    def test_it_ends_the_shortest_beginning_that_no_order_explains(self):
        found = []
        chance = random.Random(9)
        for thing in OBJECTS:
            for events in (1, 4, 9, 16, 24):
                for lie in (0.05, 0.5):
                    history = some_history(chance, (thing,), events, lie=lie)
                    wrong = [at for at in range(events) if explained(thing, history[:at + 1]) is None]
                    wanted = wrong[0] if wrong else None
                    self.assertEqual(first_wrong(thing, history), wanted, history)
                    self.assertTrue(not wrong or wrong == list(range(wanted, events)))
                    found.append(wanted)
        self.assertGreater(len(set(found)), 8)

    def test_one_and_true_are_told_apart(self):
        # A stack answers True to a push and then 1 to a pop, at the same state.
        stack = ("stack", 3, 2)
        row = ((0, ("push", 1)), (0, ("push", 1)), (0, ("pop",)), (0, ("pop",)), (0, ("push", 1)), (0, ("pop",)))
        history = whole(stack, row)
        self.assertIsNone(first_wrong(stack, history))
        for at in range(1, 12, 2):
            other = 1 if history[at][2] is True else True
            lie = history[:at] + (("answer", 0, other),) + history[at + 1:]
            self.assertEqual(first_wrong(stack, lie), at)
        bank = ("bank", (2, 1))
        row = ((1, ("look", 1)), (1, ("move", 0, 1, 1)), (1, ("look", 0)), (1, ("move", 0, 1, 1)), (1, ("look", 0)))
        self.assertIsNone(first_wrong(bank, whole(bank, row)))

    def test_an_event_without_an_answer_is_never_wrong(self):
        self.assertIsNone(first_wrong(COUNTER, tuple(("call", t, ADD) for t in range(4))))
        self.assertEqual(first_wrong(COUNTER, (("call", 0, ADD), ("call", 1, ADD), ("answer", 0, 2))), 2)
        self.assertEqual(first_wrong(COUNTER, LATE + (("call", 0, ADD),)), 3)


if __name__ == "__main__":
    unittest.main()
