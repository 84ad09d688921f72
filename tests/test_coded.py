"""Point 12: programs that run with few plans, which are repeated for ever."""

import random
import unittest

from helpedcalls.coded import cells_behind, code_bad, code_count, code_history
from helpedcalls.errors import BadPlans, BadProgram, BadWeaving, TooMany
from helpedcalls.histories import explained, is_history
from helpedcalls.objects import calls
from helpedcalls.programs import is_program
from helpedcalls.values import same
from tests.examples import OBJECTS, OTHER_VALUES
from tests.program_model import Graph, bad_by_search, machined
from tests.texts import ADD, BOTH, COUNTER, LOOK, SAMPLES, SOME_PLANS, counting, made, some_plans, some_text, text

ONE = ((ADD,),)
SHAPES = [(1,), (2,), (0, 1), (1, 1), (2, 1), (2, 2), (1, 1, 1), (0, 2, 1), (4,)]
# Rows that are no weavings, whatever the plans are.
NO_WEAVINGS = [value for value in OTHER_VALUES if not same(value, ())] + [
    [0], [], (True,), (False,), (0, True), (0, None), (4,), (-1,), (0, 5, 0), (0.0,), ("0",), ((0,),), "0", b"\0",
    (0,) * 401, (0, 1) * 201, (2,) * 401, (0, 2, 4), range(2),
]


def programs_by_chance(seed, many, length, shapes=tuple(SHAPES), things=tuple(OBJECTS)):
    """Programs with plans, by chance."""
    chance = random.Random(seed)
    while many:
        thing = chance.choice(things)
        value = some_text(chance, thing, length)
        if is_program(thing, value):
            many -= 1
            yield thing, value, some_plans(chance, thing, shapes)


def weaving_by_chance(chance, plans, most):
    """A weaving in which threads go on in bursts."""
    threads = [thread for thread, plan in enumerate(plans) if plan]
    weaving = []
    while threads and len(weaving) < most:
        weaving += [chance.choice(threads)] * chance.randrange(1, 4)
    return tuple(weaving[:most])


class Interface(unittest.TestCase):
    def test_the_answers_that_the_interface_writes_out(self):
        told = (
            code_history(COUNTER, SAMPLES["locks"], BOTH, (0, 1, 0)),
            cells_behind(COUNTER, SAMPLES["locks"], BOTH, (0, 1, 0, 0)), code_bad(COUNTER, SAMPLES["tries"], BOTH),
            len(code_bad(COUNTER, SAMPLES["reads"], BOTH)), code_count(COUNTER, SAMPLES["reads"], ((LOOK,),)),
        )
        wanted = ((("call", 0, ADD), ("call", 1, ADD)), (1, 1), None, 6, 2)
        self.assertTrue(same(told, wanted), told)


class Lines(unittest.TestCase):
    """What each kind of line does, told by the answer of a call and by the cells behind it."""

    def tell(self, lines, answer, cells=None, first="cells 7 none 3", thing=COUNTER, call=ADD):
        names = sorted({row[0] for row in calls(thing)} - {call[0]})
        others = [line for name in names for line in (f"on {name}", "answer 0")]
        value = text(first, f"on {call[0]}", *lines, *others)
        weaving = ()
        while code_history(thing, value, ((call,),), weaving)[-1:] in ((), (("call", 0, call),)):
            weaving += (0,)
        history = code_history(thing, value, ((call,),), weaving)
        self.assertTrue(same(history, (("call", 0, call), ("answer", 0, answer))), (lines, history))
        if cells is not None:
            self.assertTrue(same(cells_behind(thing, value, ((call,),), weaving), cells), lines)

    def test_answers(self):
        for word, answer in (("yes", True), ("no", False), ("none", None), ("0", 0), ("1", 1), ("9", 9), ("a", 1), ("z", None)):
            self.tell([f"answer {word}"], answer, (7, None, 3))

    def test_the_numbers_of_the_call_stand_in_a_b_and_c(self):
        for thing in OBJECTS:
            for call in calls(thing):
                for letter, number in zip("abc", call[1:]):
                    self.tell([f"answer {letter}"], number, thing=thing, call=call)
                for letter in "abcdefghijklmnopqrstuvwxyz"[len(call) - 1:]:
                    if letter in "abcdz":
                        self.tell([f"answer {letter}"], None, thing=thing, call=call)
        move = ("move", 1, 0, 3)
        self.tell(["write 0 a", "write 1 b", "write 2 c", "answer yes"], True, (1, 0, 3), thing=("bank", (2, 5)), call=move)

    def test_registers_are_none_again_when_a_call_begins(self):
        value = made(add=("set s r + a", "set r 1", "set a 5", "write 0 s", "answer s"))
        self.assertEqual(code_history(COUNTER, value, ONE, (0, 0, 0, 0))[1::2], (("answer", 0, None),) * 2)
        self.assertEqual(cells_behind(COUNTER, made(add=("write 0 a", "set a 5", "answer a")), ONE, (0, 0, 0)), (1,))

    def test_worths(self):
        for worth, value in (
            ("4", 4), ("none", None), ("a", 1), ("q", None), ("4 + 5", 9), ("5 + 5", 0), ("9 + 9", 8), ("a + 9", 0),
            ("4 - 4", 0), ("4 - 5", 9), ("0 - 9", 1), ("9 - 0", 9), ("none + 1", None), ("1 + none", None), ("0 - none", None),
            ("none - 0", None), ("none - none", None), ("a + a", 2), ("a - q", None), ("q + a", None), ("2 - a", 1),
        ):
            self.tell([f"set r {worth}", "answer r"], value, (7, None, 3))
            self.tell([f"write 0 {worth}", "answer 0"], 0, (value, None, 3))

    def test_set_and_go(self):
        self.tell(["set r 1", "set s r + 1", "set r s + s", "answer r"], 4)
        self.tell(["set a a + a", "answer a"], 2)
        self.tell(["set a none", "answer a"], None)
        self.tell(["go end", "top:", "answer 1", "end:", "set r 2", "go top"], 1)
        self.tell(["go end", "answer 1", "end:", "answer 2"], 2)
        self.tell(["answer 1", "answer 2"], 1)

    def test_if(self):
        for one, sign, other, holds in (
            ("1", "=", "1", True), ("1", "=", "2", False), ("0", "=", "none", False), ("none", "=", "0", False),
            ("none", "=", "none", True), ("q", "=", "none", True), ("q", "=", "z", True), ("a", "=", "1", True),
            ("a", "=", "q", False), ("1", "<", "2", True), ("2", "<", "2", False), ("3", "<", "2", False),
            ("0", "<", "9", True), ("none", "<", "0", False), ("none", "<", "9", False), ("0", "<", "none", False),
            ("none", "<", "none", False), ("a", "<", "2", True), ("0", "<", "a", True), ("q", "<", "a", False),
            ("a", "<", "q", False), ("a", "<", "a", False),
        ):
            self.tell([f"if {one} {sign} {other} go end", "answer no", "end:", "answer yes"], holds)
            self.tell(["go test", "top:", "answer yes", "test:", f"if {one} {sign} {other} go top", "answer no"], holds)

    def test_read(self):
        for place, value in (("0", 7), ("1", None), ("2", 3), ("3", None), ("9", None), ("none", None), ("a", None), ("q", None)):
            self.tell(["set r 5", f"read r {place}", "answer r"], value, (7, None, 3))
        self.tell(["read a a", "answer a"], None)
        self.tell(["set p 2", "read p p", "read p p", "answer p"], None)
        self.tell(["set p 2", "read p p", "answer p"], 3)
        self.tell(["read f 5", "answer f"], 9, first="cells 1 2 3 4 5 9")
        self.tell(["read r 0", "answer r"], 0, first="cells 0")

    def test_write(self):
        for place, cells in (
            ("0", (5, None, 3)), ("1", (7, 5, 3)), ("2", (7, None, 5)), ("3", (7, None, 3)), ("9", (7, None, 3)),
            ("none", (7, None, 3)), ("a", (7, 5, 3)), ("q", (7, None, 3)),
        ):
            self.tell([f"write {place} 5", "answer 0"], 0, cells)
        self.tell(["write 0 none", "write 1 1 + 1", "answer 0"], 0, (None, 2, 3))

    def test_swap(self):
        for line, done, cells in (
            ("0 7 8", 1, (8, None, 3)), ("0 8 7", 0, (7, None, 3)), ("0 7 7", 1, (7, None, 3)), ("0 7 none", 1, (None, None, 3)),
            ("1 none 4", 1, (7, 4, 3)), ("1 0 4", 0, (7, None, 3)), ("0 none 4", 0, (7, None, 3)), ("1 none none", 1, (7, None, 3)),
            ("3 none 4", 0, (7, None, 3)), ("9 0 4", 0, (7, None, 3)), ("none none 4", 0, (7, None, 3)),
            ("none 7 4", 0, (7, None, 3)), ("q q q", 0, (7, None, 3)), ("a q a", 1, (7, 1, 3)), ("2 3 9", 1, (7, None, 9)),
        ):
            self.tell(["set r 5", f"swap r {line}", "answer r"], done, cells)
        # The old value and the new one are those ahead of the swap.
        self.tell(["set r 7", "swap r 0 r r", "answer r"], 1, (7, None, 3))
        self.tell(["set r 2", "swap r r 3 r", "answer r"], 1, (7, None, 2))


class Steps(unittest.TestCase):
    def rows(self, value, plans, rows):
        """Rows of the next thread, and the events and the cells that its step leads to."""
        weaving, history = (), ()
        for thread, events, cells in rows:
            weaving += (thread,)
            history += tuple((word, thread, told) for word, told in events)
            self.assertTrue(same(code_history(COUNTER, value, plans, weaving), history), weaving)
            self.assertTrue(same(cells_behind(COUNTER, value, plans, weaving), cells), weaving)

    def test_locks(self):
        self.rows(SAMPLES["locks"], BOTH, [
            (0, [("call", ADD)], (0, 1)),
            (1, [("call", ADD)], (0, 1)),
            (0, [], (0, 1)),
            (0, [], (1, 1)),
            (1, [], (1, 1)),
            (0, [], (1, 0)),
            (1, [], (1, 1)),
            (0, [("answer", 0)], (1, 1)),
            (0, [("call", ADD)], (1, 1)),
            (1, [], (1, 1)),
            (1, [], (0, 1)),
            (1, [], (0, 0)),
            (1, [("answer", 1)], (0, 0)),
        ])

    def test_tries(self):
        self.rows(SAMPLES["tries"], ((ADD,), (ADD, LOOK)), [
            (0, [("call", ADD)], (0,)),
            (1, [("call", ADD)], (0,)),
            (1, [], (1,)),
            (0, [], (1,)),
            (0, [], (1,)),
            (0, [], (0,)),
            (1, [("answer", 0)], (0,)),
            (1, [("call", LOOK)], (0,)),
            (0, [("answer", 1)], (0,)),
            (1, [("answer", 0)], (0,)),
            (1, [("call", ADD)], (0,)),
        ])

    def test_a_call_can_end_at_its_first_step(self):
        value = made(add=("set r 1", "go end", "end:", "answer r"), look=("answer no",))
        self.rows(value, ((ADD,), (LOOK,)), [
            (0, [("call", ADD), ("answer", 1)], (0,)),
            (1, [("call", LOOK), ("answer", False)], (0,)),
            (0, [("call", ADD), ("answer", 1)], (0,)),
        ])
        self.assertEqual(code_count(COUNTER, value, ((ADD,), (LOOK,))), 1)

    def test_lines_that_are_not_shared_are_done_behind_the_shared_one(self):
        # Behind the reading the register is 3 at once, so it is not told apart from what it was.
        value = made(add=("read r 0", "set r 3", "answer r"), cells="cells 5")
        self.assertEqual(code_count(COUNTER, value, ((ADD,), (ADD,))), 4)
        value = made(add=("read r 0", "write 0 4", "answer r"), cells="cells 5")
        self.assertEqual(code_count(COUNTER, value, ONE), 6)
        value = made(add=("read r 0", "set r 5", "write 0 4", "answer r"), cells="cells 5")
        self.assertEqual(code_count(COUNTER, value, ONE), 5)

    def test_plans_are_repeated_for_ever(self):
        plans = ((ADD, LOOK, ADD),)
        history = code_history(COUNTER, SAMPLES["reads"], plans, (0,) * 400)
        told = [event[2] for event in history if event[0] == "call"]
        self.assertEqual(told, [(ADD, LOOK, ADD)[at % 3] for at in range(len(told))])
        self.assertEqual(len(told), 50 * 3)
        answers = [event[2] for event in history if event[0] == "answer"]
        self.assertEqual(answers, [0, 1, 1] * 50)

    def test_all_short_weavings_are_as_the_model_says(self):
        for name, value in SAMPLES.items():
            for plans in (BOTH, ((ADD, LOOK), (ADD,))):
                rows = [()]
                while len(rows[0]) < 9:
                    rows = [weaving + (thread,) for weaving in rows for thread in (0, 1)]
                for weaving in rows:
                    model = machined(value, plans, weaving)
                    self.assertTrue(same(code_history(COUNTER, value, plans, weaving), tuple(model.history)), (name, weaving))
                    self.assertTrue(same(cells_behind(COUNTER, value, plans, weaving), tuple(model.cells)), (name, weaving))

    def test_weavings_by_chance_are_as_the_model_says(self):
        chance = random.Random(33)
        for thing, value, plans in programs_by_chance(34, 600, 8):
            weaving = weaving_by_chance(chance, plans, chance.choice([5, 30, 400]))
            model = machined(value, plans, weaving)
            self.assertTrue(same(code_history(thing, value, plans, weaving), tuple(model.history)), (value, plans, weaving))
            self.assertTrue(same(cells_behind(thing, value, plans, weaving), tuple(model.cells)), (value, plans, weaving))


class Weavings(unittest.TestCase):
    def tell(self, plans, weaving, index):
        for function in (code_history, cells_behind):
            for value in SAMPLES.values():
                with self.subTest(function=function.__name__, plans=plans, weaving=weaving):
                    with self.assertRaises(BadWeaving) as caught:
                        function(COUNTER, value, plans, weaving)
                    self.assertTrue(same(caught.exception.index, index))

    def test_what_is_no_row_of_threads_has_no_place(self):
        for weaving in NO_WEAVINGS:
            self.tell(BOTH, weaving, None)

    def test_a_thread_without_calls_has_no_step(self):
        self.tell(((),), (0,), 0)
        self.tell(((),), (0, 0), 0)
        self.tell(((ADD,), ()), (0, 0, 1, 0), 2)
        self.tell(((), (ADD,)), (1, 1, 1, 1, 1, 0), 5)
        self.tell(((ADD,),), (0, 1), 1)
        self.tell(BOTH, (0, 1, 3, 2), 2)
        self.tell(((LOOK,), (), (ADD,)), (2, 0, 1), 2)
        self.tell(((), (), ()), (3,), 0)
        self.tell(((LOOK,), (), (ADD,)), (2, 0, 2) * 100 + (3,), 300)

    def test_a_thread_with_calls_always_has_one(self):
        for value in SAMPLES.values():
            for plans in SOME_PLANS:
                threads = [thread for thread, plan in enumerate(plans) if plan]
                weaving = tuple(threads) * 400
                self.assertGreaterEqual(len(code_history(COUNTER, value, plans, weaving[:400])), 2 * len(threads))
        self.tell(BOTH, (0,) * 401, None)

    def test_behind_no_step(self):
        for thing in OBJECTS:
            names = sorted({call[0] for call in calls(thing)})
            value = text("cells 3 none 0", *[line for name in names for line in (f"on {name}", "answer 0")])
            for plans in (((),), ((), ()), ((calls(thing)[0],) * 4,), ((calls(thing)[-1],),) * 3):
                self.assertTrue(same(code_history(thing, value, plans, ()), ()))
                self.assertTrue(same(cells_behind(thing, value, plans, ()), (3, None, 0)))


class Counts(unittest.TestCase):
    def test_counted_by_hand(self):
        for name, plans, many in (
            ("reads", ((),), 1), ("reads", ((), (), ()), 1), ("reads", ((LOOK,),), 2), ("reads", ((LOOK, LOOK),), 4),
            # For each thread: no call, or behind a reading of 0; and of both.
            ("reads", ((LOOK,), (LOOK,)), 4), ("reads", ((LOOK,), (LOOK,), (LOOK,)), 8),
            # Cell 0 or 1, each ahead of the call, behind its reading and behind its writing.
            ("reads", ONE, 6), ("tries", ONE, 6), ("locks", ONE, 10),
        ):
            self.assertTrue(same(code_count(COUNTER, SAMPLES[name], plans), many), (name, plans))

    def test_registers_that_hold_other_values_are_other_standings(self):
        value = made(add=("read r 0", "read r 1", "read r 0", "answer 0"), cells="cells 1 2")
        self.assertEqual(code_count(COUNTER, value, ONE), 4)
        same_line = made(add=("top:", "read r 0", "set s s + 1", "if s = none go none", "go top", "none:", "set s 0", "go top"))
        self.assertEqual(code_count(COUNTER, same_line, ONE), 11)

    def test_they_are_as_many_as_the_model_meets(self):
        for value in SAMPLES.values():
            for plans in SOME_PLANS:
                graph = Graph(value, plans, 60)
                many = code_count(COUNTER, value, plans)
                self.assertEqual(min(many, 60), min(len(graph.steps), 60))
        counts = {}
        for thing, value, plans in programs_by_chance(35, 500, 5):
            graph = Graph(value, plans, 60)
            if len(graph.steps) < 60:
                self.assertTrue(same(code_count(thing, value, plans), len(graph.steps)), (value, plans))
                counts[len(graph.steps)] = True
        self.assertGreater(len(counts), 30)

    def test_3000_standings_and_one_more(self):
        for steps in (1, 9, 10, 99, 1234, 2999):
            self.assertTrue(same(code_count(COUNTER, counting(steps), ((LOOK,),)), steps + 1))
            self.assertIsNone(code_bad(COUNTER, counting(steps), ((LOOK,),)))
        for function in (code_count, code_bad):
            for steps in (3000, 3001, 9000):
                with self.assertRaises(TooMany) as caught:
                    function(COUNTER, counting(steps), ((LOOK,),))
                self.assertTrue(same(caught.exception.most, 3000))
            # Each thread has 60 standings, or 54, or 55 and 55.
            with self.assertRaises(TooMany):
                function(COUNTER, counting(59), ((LOOK,), (LOOK,)))
        self.assertEqual(code_count(COUNTER, counting(53), ((LOOK,), (LOOK,))), 54 * 54)
        with self.assertRaises(TooMany):
            code_count(COUNTER, counting(54), ((LOOK,), (LOOK,)))

    def test_weavings_are_done_however_many_standings_there_are(self):
        self.assertEqual(code_history(COUNTER, counting(5000), ((LOOK,),), (0,) * 400), (("call", 0, LOOK),))
        self.assertEqual(cells_behind(COUNTER, counting(5000), ((LOOK,), (LOOK,)), (0, 1) * 200), (0,))


class Bad(unittest.TestCase):
    def test_samples(self):
        self.assertTrue(same(code_bad(COUNTER, SAMPLES["reads"], BOTH), (0, 1, 0, 0, 1, 1)))
        self.assertTrue(same(code_bad(COUNTER, SAMPLES["reads"], ((), (ADD,), (ADD,))), (1, 2, 1, 1, 2, 2)))
        self.assertTrue(same(code_bad(COUNTER, SAMPLES["turns"], BOTH), bad_by_search(COUNTER, SAMPLES["turns"], BOTH, 10)))
        for name in SAMPLES:
            for plans in (((ADD,),), ((LOOK, ADD),), ((LOOK,), (LOOK,)), ((),), ((), ()), ((ADD,) * 4,)):
                self.assertIsNone(code_bad(COUNTER, SAMPLES[name], plans))
        for name in ("tries", "locks"):
            for plans in SOME_PLANS:
                self.assertIsNone(code_bad(COUNTER, SAMPLES[name], plans))

    def test_values_of_other_kinds_are_other_answers(self):
        for word, right in (("no", 0), ("yes", 1)):
            value = made(add=("write 0 1", f"answer {word}"), look=("read r 0", "answer r"))
            self.assertEqual(code_bad(COUNTER, value, ONE), (0, 0))
            value = made(add=("write 0 1", f"answer {right}"), look=("read r 0", "answer r"))
            wanted = (0, 0, 0, 0) if right == 0 else (0, 0)
            self.assertEqual(code_bad(COUNTER, value, ONE), wanted)
        adds = text("cells none", "on add", "swap r 0 none 1", "answer {}", "on drop", "answer no", "on has", "answer no")
        for word, wanted in (("yes", (0, 0, 0, 0)), ("r", (0, 0)), ("1", (0, 0))):
            self.assertEqual(code_bad(("set", 2), adds.format(word), ((("add", 0),),)), wanted)

    def test_it_is_the_first_of_all_weavings(self):
        lengths = {}
        for thing, value, plans in programs_by_chance(36, 700, 5):
            threads = sum(map(bool, plans))
            wanted = bad_by_search(thing, value, plans, {0: 1, 1: 11, 2: 7, 3: 5}[threads])
            try:
                found = code_bad(thing, value, plans)
            except TooMany:
                continue
            if wanted is None:
                self.assertTrue(found is None or len(found) > {1: 11, 2: 7, 3: 5}[threads])
            else:
                self.assertTrue(same(found, wanted), (thing, value, plans, found, wanted))
                lengths[len(wanted)] = lengths.get(len(wanted), 0) + 1
        for length in range(1, 8):
            self.assertGreater(lengths[length], 3, lengths)

    def test_it_is_wrong_only_at_its_end(self):
        found = 0
        for thing, value, plans in programs_by_chance(37, 1500, 6, shapes=((1, 1), (2, 1), (2, 2), (1, 1, 1))):
            try:
                weaving = code_bad(thing, value, plans)
            except TooMany:
                continue
            if weaving is not None:
                history = code_history(thing, value, plans, weaving)
                if is_history(thing, history):
                    found += len(weaving) > 7
                    self.assertIsNone(explained(thing, history))
                    self.assertIsNotNone(explained(thing, code_history(thing, value, plans, weaving[:-1])))
        self.assertGreater(found, 30)

    def test_none_is_right(self):
        """Behind weavings by chance there is an order if code_bad is None."""
        chance, checked = random.Random(38), 0
        for thing, value, plans in programs_by_chance(39, 700, 5):
            try:
                if code_bad(thing, value, plans) is not None:
                    continue
            except TooMany:
                continue
            for _ in range(3):
                weaving = weaving_by_chance(chance, plans, 40)
                history = code_history(thing, value, plans, weaving)
                if is_history(thing, history):
                    checked += len(history) > 6
                    self.assertIsNotNone(explained(thing, history), (thing, value, plans, weaving))
        self.assertGreater(checked, 25)

    def test_histories_may_be_longer_than_24_events(self):
        # The calls are counted in two cells, and from the number told on the answers are wrong.
        for ahead, more in ((1, 3), (2, 5), (9, 9), (0, 2), (0, 1)):
            value = made(look=(
                "read s 0", "set s s + 1", "write 0 s", "read t 1", "if 0 < s go on", "set t t + 1", "write 1 t", "on:",
                f"if t < {ahead} go right", f"if {ahead} < t go wrong", f"if s < {more} go right", "wrong:", "answer 1",
                "right:", "answer 0",
            ), cells="cells 0 0")
            number = 10 * ahead + more
            steps = 4 * number + number // 10
            self.assertEqual(code_bad(COUNTER, value, ((LOOK,),)), (0,) * steps)
            if steps <= 400:
                history = code_history(COUNTER, value, ((LOOK,),), (0,) * steps)
                self.assertEqual(len(history), 2 * number)
                self.assertEqual([event[2] for event in history[1::2]], [0] * (number - 1) + [1])

    def test_it_may_be_longer_than_400_steps(self):
        self.assertEqual(code_bad(COUNTER, counting(900, ["answer 1"]), ((LOOK,),)), (0,) * 901)

    def test_answers_that_tell_nothing(self):
        """Every history is explained, though the states that are left get more and more."""
        table = ("table", tuple((((row + 1) % 6, 0), ((5 * row) % 6, 0), (row // 2, 0)) for row in range(6)))
        for reads in (1, 4, 9):
            value = text("cells 0", "on do", *["read r 0"] * reads, "answer 0")
            for plans in (((("do", 0),), (("do", 1),), (("do", 2),)), ((("do", 0), ("do", 1)), (("do", 2), ("do", 1)))):
                self.assertIsNone(code_bad(table, value, plans))
            value = text("cells 0", "on do", *["read r 0"] * reads, "answer 1")
            self.assertEqual(code_bad(table, value, ((("do", 0),), (("do", 1),))), (0,) * (reads + 1))


class Wrong(unittest.TestCase):
    def test_only_few_plans_are_taken(self):
        many = [
            None, [], (), ((),) * 4, ((ADD,) * 5,), ((ADD, LOOK), (ADD,), (LOOK,)), ((ADD, ADD), (ADD, ADD, ADD)), ((("add", 2),),),
            ([ADD],), [(ADD,)], ((ADD,), None), (("look",),), ((("add", True),),), ((LOOK, ("pop",)),),
        ]
        for plans in many:
            for function, more in ((code_history, ((),)), (cells_behind, ((),)), (code_count, ()), (code_bad, ())):
                with self.subTest(function=function.__name__, plans=plans), self.assertRaises(BadPlans):
                    function(COUNTER, SAMPLES["reads"], plans, *more)

    def test_only_programs_are_taken(self):
        for value, line in ((None, None), ("", 0), (made() + "\n", 5), ("cells 0", None), ("\n" * 60, 60)):
            for function, more in ((code_history, ((),)), (cells_behind, ((),)), (code_count, ()), (code_bad, ())):
                with self.subTest(function=function.__name__, value=value), self.assertRaises(BadProgram) as caught:
                    function(COUNTER, value, BOTH, *more)
                self.assertTrue(same(caught.exception.line, line))


if __name__ == "__main__":
    unittest.main()
