"""What points 11 to 13 say of programs, said again in another way than the program does, for tests to go through."""

import itertools
import re

from helpedcalls.histories import explained
from helpedcalls.objects import calls

ATOM = "(?:[0-9]|none|[a-z])"
WORTH = f"{ATOM}(?: [+-] {ATOM})?"
NAME = "[a-z]{1,12}"
FIRST_LINE = re.compile("cells(?: (?:[0-9]|none)){1,6}")
ON_LINE = re.compile(f"on ({NAME})")
OWN_LINE = re.compile(f"({NAME}):|set [a-z] {WORTH}|go {NAME}|if {ATOM} [=<] {ATOM} go {NAME}")
SHARED_LINE = re.compile(
    f"read [a-z] {ATOM}|write {ATOM} {WORTH}|swap [a-z] {ATOM} {ATOM} {ATOM}|answer (?:{ATOM}|yes|no)")


def leads(lines, at):
    """The places to which a line that is not shared leads, by the lines of its method."""
    words = lines[at].split(" ")
    goal = [lines.index(words[-1] + ":")] if words[0] in ("go", "if") else []
    return goal if words[0] == "go" else goal + [at + 1]


def wrong_in_method(lines):
    """The place of the first wrong line of a method, None if none is."""
    for at, line in enumerate(lines):
        if line.endswith(":") and line in lines[:at]:
            return at
        if re.match("go |if ", line) and line.split(" ")[-1] + ":" not in lines:
            return at
    own = [bool(OWN_LINE.fullmatch(line)) for line in lines]
    reach = {(at, other) for at in range(len(lines)) if own[at] for other in leads(lines, at)}
    for middle, one, other in itertools.product(range(len(lines) + 1), repeat=3):
        if (one, middle) in reach and (middle, other) in reach:
            reach.add((one, other))
    for at, line in enumerate(lines):
        if at == len(lines) - 1 and line.split(" ")[0] not in ("go", "answer"):
            return at
        if own[at] and ((at, at) in reach or (at, len(lines)) in reach):
            return at
    return None


def judged(thing, text):
    """"right", or the line that BadProgram tells of a text."""
    if not isinstance(text, str):
        return None
    lines = text.split("\n")
    if len(lines) > 60:
        return 60
    if not FIRST_LINE.fullmatch(lines[0]):
        return 0
    begins = {}
    for at, line in enumerate(lines[1:], 1):
        on = ON_LINE.fullmatch(line)
        if on and on.group(1) not in begins:
            begins[on.group(1)] = at
        elif on or not begins or not (OWN_LINE.fullmatch(line) or SHARED_LINE.fullmatch(line)):
            return at
    ends = list(begins.values())[1:] + [len(lines)]
    for begin, end in zip(begins.values(), ends):
        if end == begin + 1:
            return begin
        wrong = wrong_in_method(lines[begin + 1:end])
        if wrong is not None:
            return begin + 1 + wrong
    return "right" if all(call[0] in begins for call in calls(thing)) else None


class Machine:
    """Threads that run a program, each call a generator that stops behind each step and tells what it holds."""

    def __init__(self, text, plans):
        first, *lines = text.split("\n")
        self.cells = [self.plain(word) for word in first.split(" ")[1:]]
        self.methods = {}
        for line in lines:
            if line.startswith("on "):
                self.methods[line[3:]] = rows = []
            else:
                rows.append(line)
        self.plans = plans
        self.places = [0] * len(plans)
        self.running = [None] * len(plans)
        self.holds = [None] * len(plans)
        self.history = []

    @staticmethod
    def plain(word):
        return None if word == "none" else int(word)

    def going(self):
        return [thread for thread, plan in enumerate(self.plans) if plan]

    def standing(self):
        return (tuple(self.cells), tuple(self.places), tuple(self.holds))

    def go(self, thread):
        if self.running[thread] is None:
            call = self.plans[thread][self.places[thread]]
            self.history.append(("call", thread, call))
            self.running[thread] = self.body(call)
        try:
            self.holds[thread] = next(self.running[thread])
        except StopIteration as last:
            self.history.append(("answer", thread, last.value))
            self.running[thread], self.holds[thread] = None, None
            self.places[thread] = (self.places[thread] + 1) % len(self.plans[thread])

    def body(self, call):
        lines = self.methods[call[0]]
        held = dict(zip("abc", call[1:]))

        def value(word):
            return held.get(word) if re.fullmatch("[a-z]", word) else self.plain(word)

        def worth(words):
            told = [value(word) for word in words if word not in ("+", "-")]
            if None in told:
                return None
            return told[0] if len(told) == 1 else (told[0] + (told[1] if "+" in words else -told[1])) % 10

        at, first = 0, True
        while True:
            words = lines[at].split(" ")
            shared = SHARED_LINE.fullmatch(lines[at])
            if shared and not first:
                yield (at, tuple(sorted((word, told) for word, told in held.items() if told is not None)))
            first = first and not shared
            at += 1
            if words[0] == "answer":
                return words[1] == "yes" if words[1] in ("yes", "no") else value(words[1])
            if words[0] == "set":
                held[words[1]] = worth(words[2:])
            elif words[0] == "go":
                at = lines.index(words[1] + ":")
            elif words[0] == "if":
                one, other = value(words[1]), value(words[3])
                if one == other if words[2] == "=" else None not in (one, other) and one < other:
                    at = lines.index(words[-1] + ":")
            elif words[0] == "read":
                place = value(words[2])
                held[words[1]] = self.cells[place] if place in range(len(self.cells)) else None
            elif words[0] == "write":
                place = value(words[1])
                if place in range(len(self.cells)):
                    self.cells[place] = worth(words[2:])
            elif words[0] == "swap":
                place, old, new = map(value, words[2:])
                done = place in range(len(self.cells)) and self.cells[place] == old
                if done:
                    self.cells[place] = new
                held[words[1]] = int(done)


def machined(text, plans, weaving):
    machine = Machine(text, plans)
    for thread in weaving:
        machine.go(thread)
    return machine


class Graph:
    """All standings that are met, each with the shortest weaving to it and, for each thread, what its step leads to.

    The step of a thread is the pair of the standing behind it and whether it hears an answer by it.
    """

    def __init__(self, text, plans, most=3001):
        self.first = machined(text, plans, ()).standing()
        self.paths = {self.first: ()}
        self.steps = {}
        rows = [self.first]
        for standing in rows:
            self.steps[standing] = {}
            for thread in machined(text, plans, ()).going():
                machine = machined(text, plans, self.paths[standing] + (thread,))
                behind = machine.standing()
                self.steps[standing][thread] = (behind, machine.running[thread] is None)
                if behind not in self.paths and len(rows) < most:
                    self.paths[behind] = self.paths[standing] + (thread,)
                    rows.append(behind)

    def each_alone(self):
        for standing in self.steps:
            for thread, hold in enumerate(standing[2]):
                met, ended = set(), hold is None
                at = standing
                while not ended and at not in met:
                    met.add(at)
                    at, ended = self.steps[at][thread]
                if not ended:
                    return False
        return True

    def silent(self, standing):
        return {thread: behind for thread, (behind, heard) in self.steps[standing].items() if not heard}

    def starving(self, standing, thread):
        return {who: behind for who, (behind, heard) in self.steps[standing].items() if not (heard and who == thread)}

    def somebody(self):
        """Takes away the standings from which no silent step leads on, until none of them is left or all have one."""
        left = set(self.steps)
        while left:
            stuck = {at for at in left if not any(behind in left for behind in self.silent(at).values())}
            if not stuck:
                return False
            left -= stuck
        return True

    def everybody(self):
        return not any(self.is_starved(thread) for thread in range(len(self.first[1])))

    def is_starved(self, thread):
        for standing in self.steps:
            behind = self.starving(standing, thread).get(thread)
            if behind is not None and standing in self.reached(behind, thread):
                return True
        return False

    def reached(self, standing, thread):
        found = [standing]
        for at in found:
            found.extend({behind for behind in self.starving(at, thread).values() if behind not in found})
        return found

    def least(self, thread=None):
        """The least number of steps of a ring with the weaving to it, None if there is no ring."""
        best = None
        for standing, path in self.paths.items():
            level, met, many = {(standing, False)}, set(), 0
            while level and (best is None or len(path) + many < best):
                many += 1
                level = {
                    (behind, needed or thread in (None, who))
                    for at, needed in level
                    for who, behind in (self.silent(at) if thread is None else self.starving(at, thread)).items()
                } - met
                met |= level
                if (standing, True) in level and (best is None or len(path) + many < best):
                    best = len(path) + many
        return best

    def shows(self, value, thread=None):
        """Whether a pair of weavings is a ring, by going through it."""
        weaving, ring = value
        at, heard, steps = self.first, False, 0
        for who in weaving:
            if who not in self.steps[at]:
                return False
            at = self.steps[at][who][0]
        start = at
        for who in ring:
            if who not in self.steps[at]:
                return False
            at, ends = self.steps[at][who]
            heard = heard or (ends and thread in (None, who))
            steps += thread in (None, who)
        return at == start and not heard and steps > 0


def bad_by_search(thing, text, plans, most):
    """The first of all weavings of at most so many steps, by length, then in order, that no order explains."""
    for length in range(1, most + 1):
        for weaving in itertools.product(machined(text, plans, ()).going(), repeat=length):
            if explained(thing, tuple(machined(text, plans, weaving).history)) is None:
                return weaving
    return None
