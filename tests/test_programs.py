"""Point 11: what is a program, and the first wrong line of what is none."""

import random
import unittest

from helpedcalls.errors import BadObject, BadProgram
from helpedcalls.objects import calls
from helpedcalls.programs import cell_count, is_program, method_names
from helpedcalls.values import same
from tests.examples import NO_OBJECTS, OBJECTS, OTHER_VALUES
from tests.program_model import judged
from tests.texts import COUNTER, SAMPLES, made, some_text, text

TWELVE = "abcdefghijkl"
ATOMS = [*"0123456789", "none", *"abcdefghijklmnopqrstuvwxyz"]
NO_ATOMS = ["", "10", "00", "-1", "+1", "A", "aa", "None", "nil", "yes", "no", "?", "0.", "\u0661", "\u00b2", "\u00e4", "a:"]
WORTHS = ["0", "none", "r", "r + s", "9 - none", "none + none", "a - 1", "z + 0"]
NO_WORTHS = [
    "", "+", "r +", "+ r", "- 1", "r s", "r + s + t", "r * s", "r+s", "r +s", "r  + s", "r + s ", "10 + 1", "r + yes", "r - -1",
]
# Lines that are no lines of a method, whatever stands around them.
NO_LINES = [
    "", " ", ":", "a", "end", "abcdefghijklm:", "End:", "a b:", "a :", " a:", "a: ", "a::", "1:", "a1:", "\u00e4:", "on", "on ",
    "on A", "on a b", "on  a", "on a ", " on a", "on abcdefghijklm", "on a1", "on 1", "ON a", "on a:", "cells 0", "cells",
    "set", "set r", "set 0 1", "set none 1", "set rr 1", "set R 1", "set r = 1", "set r 1 1", "Set r 1", "set  r 1",
    "go", "go ", "go 1", "go End", "go end end", "go end ", "go abcdefghijklm", " go end", "go end:", "goend",
    "if", "if a", "if a = b", "if a = b go", "if a = b end", "if a = b set r 1", "if a > b go end", "if a == b go end",
    "if a <= b go end", "if a=b go end", "if a != b go end", "if a = b go end end", "if a = b goto end", "if = b go end",
    "if a = go end", "if a + 1 = b go end", "if a = b + 1 go end", "if a = yes go end", "if a = b go 1", "if a <  b go end",
    "read", "read r", "read 0 r", "read none 0", "read r 0 0", "read r 0 + 1", "read rr 0", "read r 10", "read r yes",
    "write", "write 0", "write 0 1 2", "write 10 1", "write 0 yes", "write 0 + 1 1", "write 1 + 1 + 1", "write r s t",
    "swap", "swap r", "swap r 0", "swap r 0 0", "swap 0 0 0 0", "swap r 0 0 0 0", "swap r 0 0 yes", "swap r 0 10 0",
    "swap r 0 0 1 + 1", "swap none 0 0 0", "swap r 0 0 0 ",
    "answer", "answer ", "answer 10", "answer true", "answer Yes", "answer yes no", "answer r + 1", "answer r s", "answer r ",
    "answers r", "Answer r", "answer\tr", "\tanswer r", "answer r\r", "answer-r", "skip", "# answer", "read r\u00a00",
]
FIRST_LINES = ["cells 0", "cells none", "cells 9", "cells 0 none", "cells 1 2 3 4 5 6", "cells none none none none none none"]
NO_FIRST_LINES = [
    "", "cells", "cells ", "cells 0 ", " cells 0", "cells  0", "cells 0  1", "cells 1 2 3 4 5 6 7", "cells 0 0 0 0 0 0 none",
    "cells 10", "cells -1", "cells a", "cells yes", "cells None", "cell 0", "Cells 0", "cells: 0", "cells 0,1", "0 0", "on add",
    "cells 0 a", "cells a 0", "cells 0\r", "cells\t0", "cells \u0661", "cells 0 1 x 3", "read r 0",
]


def told(value, thing=COUNTER):
    """"right", or the line that BadProgram tells of a text."""
    try:
        cell_count(thing, value)
    except BadProgram as wrong:
        return wrong.line
    return "right"


class Case(unittest.TestCase):
    def tell(self, value, line, thing=COUNTER):
        """All three functions, and the model, agree on a text."""
        self.assertTrue(same(told(value, thing), line), (value, told(value, thing), line))
        self.assertTrue(same(judged(thing, value), line), (value, judged(thing, value), line))
        self.assertIs(is_program(thing, value), line == "right")
        if line != "right":
            with self.assertRaises(BadProgram) as caught:
                method_names(thing, value)
            self.assertTrue(same(caught.exception.line, line))


class Interface(Case):
    def test_the_answers_that_the_interface_writes_out(self):
        self.assertTrue(same((
            cell_count(COUNTER, SAMPLES["locks"]), method_names(COUNTER, SAMPLES["locks"]), is_program(COUNTER, "cells 0"),
            is_program(("agree", 2), "cells none\non decide\nswap o 0 none a\nread r 0\nanswer r"),
        ), (2, ("add", "look"), False, True)))

    def test_the_number_of_cells(self):
        for line in FIRST_LINES:
            self.assertTrue(same(cell_count(COUNTER, made(cells=line)), len(line.split()) - 1))

    def test_the_names_of_methods_are_ascending(self):
        more = text("on zebra", "answer 0", "on b", "answer 0", "on adds", "answer 0", "on a", "answer 0")
        self.assertTrue(same(method_names(COUNTER, made(more=(more,))), ("a", "add", "adds", "b", "look", "zebra")))
        turned = text("cells 0", "on look", "answer 0", "on add", "answer 0")
        self.assertTrue(same(method_names(COUNTER, turned), ("add", "look")))
        self.assertTrue(same(method_names(("agree", 5), text("cells 0", "on decide", "answer a")), ("decide",)))


class Lines(Case):
    def in_method(self, line, begin="set r 1"):
        """A text whose line 3 is a line of a method, with the label end behind it."""
        return made(add=(begin, line, "end:", "answer 0"))

    def test_labels(self):
        for name in ("a", "z", TWELVE, "on", "set", "go", "if", "none", "answer", "yes", "cells"):
            self.tell(self.in_method(f"{name}:"), "right")
            self.tell(made(add=(f"go {name}", f"{name}:", "answer 0")), "right")
            self.tell(made(more=(f"on {name}", "answer 0")), "right")
        for name in ("", "abcdefghijklm", "A", "aB", "a1", "1", "_", "a-b", "\u00e4"):
            self.tell(self.in_method(f"{name}:"), 3)
            self.tell(self.in_method(f"go {name}"), 3)
            self.tell(made(more=(f"on {name}", "answer 0")), 5)

    def test_atoms(self):
        for atom in ATOMS:
            for line in (
                "set r {}", "set r {} + 1", "set r 1 - {}", "if {} = 1 go end", "if 1 < {} go end", "read r {}",
                "write {} 1", "write 1 {}", "write 1 {} - 1", "write 1 1 + {}", "swap r {} 1 1", "swap r 1 {} 1",
                "swap r 1 1 {}", "answer {}",
            ):
                self.tell(self.in_method(line.format(atom)), "right")
        for atom in NO_ATOMS:
            for line in ("set r {}", "set r 1 + {}", "if {} < 1 go end", "read r {}", "write {} 1", "swap r 1 {} 1"):
                self.tell(self.in_method(line.format(atom)), 3)
            if atom not in ("yes", "no"):
                self.tell(self.in_method(f"answer {atom}"), 3)

    def test_registers(self):
        for letter in "abcdefghijklmnopqrstuvwxyz":
            for line in (f"set {letter} 1", f"read {letter} 0", f"swap {letter} 0 0 0"):
                self.tell(self.in_method(line), "right")
        for word in ["0", "none", "A", "rr", "", "\u00e4", "_"]:
            for line in (f"set {word} 1", f"read {word} 0", f"swap {word} 0 0 0"):
                self.tell(self.in_method(line), 3)

    def test_worths(self):
        for worth in WORTHS:
            self.tell(self.in_method(f"set r {worth}"), "right")
            self.tell(self.in_method(f"write 0 {worth}"), "right")
        for worth in NO_WORTHS:
            self.tell(self.in_method(f"set r {worth}"), 3)
            self.tell(self.in_method(f"write 0 {worth}"), 3)

    def test_each_kind_of_line(self):
        for line in (
            "endtwo:", "set r 1", "go end", "if a = b go end", "if a < b go end", "if none = none go end",
            "read r 0", "write 0 1", "swap r 0 none 1", "answer r", "answer 0", "answer none", "answer yes", "answer no",
        ):
            self.tell(self.in_method(line), "right")

    def test_what_is_no_line(self):
        for line in NO_LINES:
            self.tell(self.in_method(line), 3)

    def test_lines_ahead_of_all_methods(self):
        for line in ("end:", "set r 1", "go end", "read r 0", "answer 0", "", "cells 0"):
            self.tell(text("cells 0", line, "on add", "end:", "answer 0", "on look", "answer 0"), 1)
        self.tell(text("cells 0", "answer 0"), 1)

    def test_an_empty_line_at_the_end_is_a_line(self):
        self.tell(made() + "\n", 5)
        self.tell(made() + "\n\n", 5)
        self.tell("\n" + made(), 0)

    def test_first_lines(self):
        for line in FIRST_LINES:
            self.tell(made(cells=line), "right")
        for line in NO_FIRST_LINES:
            self.tell(made(cells=line), 0)
            self.tell(line, 0)

    def test_what_is_no_string(self):
        for value in OTHER_VALUES + NO_OBJECTS:
            if not isinstance(value, str):
                self.tell(value, None)
        for value in (SAMPLES["reads"].encode(), [SAMPLES["reads"]], tuple(SAMPLES["reads"].split("\n"))):
            self.tell(value, None)


class Length(Case):
    def long(self, lines):
        return made(look=("set r 1",) * (lines - 5) + ("answer 0",))

    def test_60_lines_and_one_more(self):
        self.assertEqual(len(self.long(60).split("\n")), 60)
        self.tell(self.long(60), "right")
        self.tell(self.long(59), "right")
        self.tell(self.long(61), 60)
        self.tell(self.long(200), 60)

    def test_more_lines_come_ahead_of_all_other_faults(self):
        self.tell("\n" * 59, 0)
        self.tell("\n" * 60, 60)
        self.tell("what\n" + self.long(60), 60)
        self.tell(text("cells", *["on add"] * 60), 60)


class Methods(Case):
    def test_each_name_stands_once(self):
        self.tell(made(more=("on add", "answer 0")), 5)
        self.tell(made(more=("on look",)), 5)
        self.tell(text("cells 0", "on add", "on add", "answer 0"), 2)

    def test_a_method_without_lines(self):
        self.tell(text("cells 0", "on add", "on look", "answer 0"), 1)
        self.tell(text("cells 0", "on look", "answer 0", "on add"), 3)
        self.tell(made(more=("on more", "on else", "answer 0")), 5)
        self.tell(made(more=("on more", "answer 0", "on else")), 7)

    def test_a_method_that_lacks(self):
        self.tell("cells 0", None)
        self.tell(text("cells 0", "on look", "answer 0"), None)
        self.tell(text("cells 0", "on add", "answer 0"), None)
        self.tell(text("cells 0", "on more", "answer 0"), None)
        for thing in OBJECTS:
            names = sorted({call[0] for call in calls(thing)})
            lines = [line for name in names for line in (f"on {name}", "answer none")]
            self.tell(text("cells 0", *lines), "right", thing)
            self.tell(text("cells 0", *lines, "on more", "answer yes"), "right", thing)
            for at in range(len(names)):
                self.tell(text("cells 0", *lines[:2 * at], *lines[2 * at + 2:]), None, thing)

    def test_a_label_stands_once_in_a_method(self):
        self.tell(made(add=("end:", "end:", "answer 0")), 3)
        self.tell(made(add=("end:", "read r 0", "again:", "read r 0", "end:", "again:", "answer 0")), 6)
        self.tell(made(add=("end:", "answer 0"), look=("end:", "answer 0")), "right")

    def test_a_label_stands_in_its_own_method(self):
        self.tell(made(add=("go end", "answer 0")), 2)
        self.tell(made(add=("read r 0", "if r = 0 go end", "answer 0")), 3)
        self.tell(made(add=("end:", "answer 0"), look=("go end", "answer 0")), 5)
        self.tell(made(add=("go end", "answer 0"), look=("end:", "answer 0")), 2)
        self.tell(made(add=("go end", "ends:", "answer 0")), 2)

    def test_labels_stand_ahead_of_a_line_or_behind_it(self):
        self.tell(made(add=("end:", "read r 0", "go end")), "right")
        self.tell(made(add=("if a = 1 go end", "read r 0", "end:", "answer 0")), "right")

    def test_the_last_line_is_an_answer_or_a_go(self):
        for line in ("read r 0", "write 0 1", "swap r 0 0 0"):
            self.tell(made(add=("top:", line)), 3)
            self.tell(made(add=("answer 0", line)), 3)
        for line in ("set r 1", "end:", "if a = 1 go top"):
            self.tell(made(add=("top:", "answer 0", line)), 4)
        for line in ("answer r", "answer yes", "answer no", "answer none", "go top"):
            self.tell(made(add=("top:", "read r 0", line)), "right")

    def test_lines_that_lead_over_the_end(self):
        self.tell(made(add=("set r 1",)), 2)
        self.tell(made(add=("set r 1", "set s 1", "end:")), 2)
        self.tell(made(add=("read r 0", "set r 1", "set s 1")), 3)
        self.tell(made(add=("go end", "answer 0", "end:")), 2)
        self.tell(made(add=("read r 0", "if r = 0 go end", "answer 0", "end:")), 3)
        self.tell(made(add=("answer 0", "if r = 0 go end", "answer 0", "end:", "set r 1")), 3)
        # What is shared stops the way to the end.
        self.tell(made(add=("set r 1", "read r 0", "set r 1")), 4)
        self.tell(made(add=("set r 1", "read r 0")), 3)

    def test_lines_that_lead_in_a_ring(self):
        self.tell(made(add=("top:", "go top")), 2)
        self.tell(made(add=("go top", "top:", "go top")), 3)
        self.tell(made(add=("read r 0", "top:", "set r r + 1", "if r < 9 go top", "answer r")), 3)
        self.tell(made(add=("set r 1", "top:", "go on", "back:", "go top", "on:", "go back")), 3)
        self.tell(made(add=("if 0 = 1 go here", "answer 0", "here:", "go here")), 4)
        self.tell(made(add=("top:", "if 0 = 1 go top", "answer 0")), 2)
        # A line that nothing leads to counts, too.
        self.tell(made(add=("answer 0", "top:", "set r 1", "go top")), 3)
        for line in ("read r 0", "write 0 1", "swap r 0 0 0"):
            self.tell(made(add=("top:", line, "go top")), "right")
            self.tell(made(add=("top:", "set s 1", line, "if r = 1 go top", "go top")), "right")
        self.tell(made(add=("top:", "answer 0", "go top")), "right")

    def test_lines_that_lead_into_a_ring_are_not_in_it(self):
        self.tell(made(add=("set r 1", "set s 1", "top:", "set r 2", "go top")), 4)
        self.tell(made(add=("if a = 1 go ring", "read r 0", "answer r", "ring:", "go ring")), 5)


class Sequence(Case):
    """Several faults in one text: the first in the document's sequence is told."""

    def test_faults_of_unlike_kinds(self):
        ring, over, label = ("top:", "go top"), ("set r 1",), ("go end", "answer 0")
        for lines, line in (
            # The first line, then lines that are none, wherever they stand.
            (["cells", "what"], 0),
            (["cells 0", "on add", *ring, "on look", "what"], 5),
            (["cells 0", "on add", "on look", "answer 0", "on add"], 4),
            (["cells 0", "answer 0", "on add", "what"], 1),
            (["cells 0", "on add", *label, "what", "what"], 4),
            (["cells 0", "on more", "what"], 2),
            # Then method by method, first one without lines.
            (["cells 0", "on add", *ring, "on look"], 2),
            (["cells 0", "on add", "on look", *ring], 1),
            (["cells 0", "on more", *over, "on add", "on look", *label], 2),
            # In one method labels come first, and the last line stands in one sequence with the ways.
            (["cells 0", "on add", *ring, "top:", "answer 0"], 4),
            (["cells 0", "on add", *ring, "go end"], 4),
            (["cells 0", "on add", "set r 1", "if r = 1 go end", "set r 1"], 3),
            (["cells 0", "on add", "go end", "top:", "top:"], 2),
            (["cells 0", "on add", "top:", "top:", "go end"], 3),
            (["cells 0", "on add", "read r 0", *ring, "read r 0"], 3),
            (["cells 0", "on add", "set r 1", "read r 0", *ring, "read r 0"], 4),
            (["cells 0", "on add", "set r 1", "read r 0", "answer 0", "write 0 0"], 5),
            (["cells 0", "on add", "read r 0", "read r 0", "on look", *ring], 3),
            (["cells 0", "on look", *over, "on add", *label], 2),
            # At last a method that lacks.
            (["cells 0", "on more", *over], 2),
            (["cells 0", "on look"], 1),
            (["cells 0", "on look", "answer 0", "on more", "answer 0"], None),
        ):
            self.tell(text(*lines), line)


class ByChance(Case):
    def test_texts_are_judged_as_the_model_judges(self):
        chance = random.Random(31)
        found = {}
        for _ in range(3000):
            thing = chance.choice(OBJECTS)
            value = some_text(chance, thing, 6)
            line = judged(thing, value)
            self.assertTrue(same(told(value, thing), line), (thing, value))
            self.assertIs(is_program(thing, value), line == "right")
            found[line == "right"] = found.get(line == "right", 0) + 1
        self.assertGreater(min(found.values()), 500)

    def test_texts_with_faults_are_judged_as_the_model_judges(self):
        chance = random.Random(32)
        found = {}
        for _ in range(6000):
            thing = chance.choice(OBJECTS)
            lines = some_text(chance, thing, 5).split("\n")
            for _ in range(chance.randrange(1, 3)):
                self.spoil(chance, lines)
            value = text(*lines)
            line = judged(thing, value)
            self.assertTrue(same(told(value, thing), line), (thing, value, line))
            found[line] = found.get(line, 0) + 1
        for line in ("right", None, *range(0, 12)):
            self.assertGreater(found.get(line, 0), 5, (line, found))

    def spoil(self, chance, lines):
        at, other = chance.randrange(len(lines)), chance.randrange(len(lines))
        kind = chance.randrange(7)
        if kind == 0 and len(lines) > 1:
            del lines[at]
        elif kind == 1:
            lines.insert(at, lines[other])
        elif kind == 2:
            lines[at], lines[other] = lines[other], lines[at]
        elif kind == 3:
            words = lines[at].split(" ")
            words[chance.randrange(len(words))] = chance.choice(["end", "none", "0", "go", "", "top:", "r", "<", "+", "yes"])
            lines[at] = " ".join(words)
        elif kind == 4:
            lines.insert(at, chance.choice(["end:", "go end", "top:", "go top", "on more", "if r = 0 go top", "answer no"]))
        elif kind == 5:
            lines[at] += chance.choice([" ", " + 1", ":", "s", " 0"])
        else:
            lines.append(chance.choice(["on more", "read r 0", "go top", "go end", "set r 1", "", "if r = r go end"]))


class WrongObjects(unittest.TestCase):
    def test_what_is_no_object_comes_first(self):
        for thing in NO_OBJECTS:
            for value in (SAMPLES["reads"], None, "", "\n" * 70):
                for function in (is_program, cell_count, method_names):
                    with self.subTest(thing=thing, function=function.__name__), self.assertRaises(BadObject):
                        function(thing, value)


if __name__ == "__main__":
    unittest.main()
