"""Point 14: samples and reports."""

import unittest

from helpedcalls.coded import code_bad, code_count
from helpedcalls.ending import each_alone, everybody, somebody
from helpedcalls.errors import BadObject, BadPlans, BadProgram, TooMany
from helpedcalls.programs import is_program, method_names
from helpedcalls.samples import report, sample
from helpedcalls.values import same
from tests.examples import NO_OBJECTS, OBJECTS, OTHER_VALUES
from tests.test_coded import programs_by_chance
from tests.texts import ADD, BOTH, COUNTER, LOOK, SAMPLES, SOME_PLANS, counting, made


class Samples(unittest.TestCase):
    def test_their_texts(self):
        for name, value in SAMPLES.items():
            self.assertTrue(same(sample(name), value), name)

    def test_they_are_programs_for_a_counter(self):
        for name in SAMPLES:
            self.assertIs(is_program(COUNTER, sample(name)), True)
            self.assertTrue(same(method_names(COUNTER, sample(name)), ("add", "look")))

    def test_there_are_no_others(self):
        for name in OTHER_VALUES + ["", "read", "Reads", "reads ", " reads", "try", "lock", "turn", "reads\n", b"reads", ("reads",)]:
            with self.subTest(name=name), self.assertRaises(BadProgram) as caught:
                sample(name)
            self.assertIsNone(caught.exception.line)


class Reports(unittest.TestCase):
    def test_the_answer_that_the_interface_writes_out(self):
        wanted = "standings 2\none order yes\neach alone yes\nsomebody yes\neverybody yes"
        self.assertTrue(same(report(COUNTER, sample("tries"), ((LOOK,),)), wanted))

    def test_written_out(self):
        for name, plans, wanted in (
            ("reads", BOTH, "standings 42\none order no 010011\neach alone yes\nsomebody yes\neverybody yes"),
            ("tries", BOTH, "standings 90\none order yes\neach alone yes\nsomebody yes\neverybody no"),
            ("locks", BOTH, "standings 72\none order yes\neach alone no\nsomebody no\neverybody no"),
            ("reads", ((), (ADD,), (ADD,)), "standings 42\none order no 121122\neach alone yes\nsomebody yes\neverybody yes"),
            ("turns", ((),), "standings 1\none order yes\neach alone yes\nsomebody yes\neverybody yes"),
        ):
            self.assertTrue(same(report(COUNTER, SAMPLES[name], plans), wanted), (name, plans))

    def test_they_tell_what_the_other_functions_tell(self):
        told = [(COUNTER, value, plans) for value in SAMPLES.values() for plans in SOME_PLANS if len(plans) < 3]
        for row in told + list(programs_by_chance(51, 300, 5)):
            try:
                bad = code_bad(*row)
            except TooMany:
                continue
            order = "yes" if bad is None else "no " + "".join(map(str, bad))
            lines = [f"standings {code_count(*row)}", f"one order {order}"]
            for word, function in (("each alone", each_alone), ("somebody", somebody), ("everybody", everybody)):
                lines.append(f"{word} {'yes' if function(*row) else 'no'}")
            self.assertTrue(same(report(*row), "\n".join(lines)), row)

    def test_3000_standings_and_one_more(self):
        told = report(COUNTER, counting(2999), ((LOOK,),))
        self.assertEqual(told.split("\n")[0], "standings 3000")
        with self.assertRaises(TooMany) as caught:
            report(COUNTER, counting(3000), ((LOOK,),))
        self.assertTrue(same(caught.exception.most, 3000))

    def test_wrong_arguments(self):
        for value in NO_OBJECTS:
            with self.subTest(value=value), self.assertRaises(BadObject):
                report(value, None, None)
        for thing in OBJECTS:
            with self.assertRaises(BadProgram) as caught:
                report(thing, "cells", None)
            self.assertTrue(same(caught.exception.line, 0))
        for plans in (None, (), [(ADD,)], ((ADD,) * 5,), ((None,),)):
            with self.subTest(plans=plans), self.assertRaises(BadPlans):
                report(COUNTER, made(), plans)


if __name__ == "__main__":
    unittest.main()
