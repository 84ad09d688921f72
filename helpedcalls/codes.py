"""Plans that are repeated for ever, whose calls a program does step by step (point 12).

A standing is the pair of the cells and, for each thread, of (the place of its call in its plan, the shared row that is
next, the registers); where no call is open the last two are None.
"""

from helpedcalls.plans import check_few_plans
from helpedcalls.reading import program_in
from helpedcalls.rows import answered, begun, done_alone, done_shared
from helpedcalls.standings import Standings

MOST_STANDINGS = 3000


class Code:
    """A program and plans."""

    def __init__(self, program, plans):
        self.program = program
        self.plans = plans

    def start(self):
        """The standing ahead of all steps."""
        return (self.program.cells, ((0, None, None),) * len(self.plans))

    def has_step(self, thread):
        """Whether a thread has a step, as it then always has."""
        return thread < len(self.plans) and len(self.plans[thread]) > 0

    def stepped(self, standing, thread):
        """The standing behind a step of a thread, and the events of the step."""
        cells, turns = standing
        place, at, registers = turns[thread]
        call = self.plans[thread][place]
        method = self.program.methods[call[0]]
        events = []
        if at is None:
            events.append(("call", thread, call))
            at, registers = begun(method, call)
        row = method.rows[at]
        if row[0] == "answer":
            events.append(("answer", thread, answered(row, registers)))
            turn = ((place + 1) % len(self.plans[thread]), None, None)
        else:
            cells, registers = done_shared(row, cells, registers)
            turn = (place,) + done_alone(method, at + 1, registers)
        return ((cells, turns[:thread] + (turn,) + turns[thread + 1:]), tuple(events))

    def steps_at(self, standing):
        """The triples (thread, standing behind its step, events of the step) of the threads that have a step."""
        threads = [thread for thread in range(len(self.plans)) if self.has_step(thread)]
        return [(thread,) + self.stepped(standing, thread) for thread in threads]


def code_of(thing, text, plans):
    """A program with few plans; the error of the first wrong argument if one is wrong."""
    program = program_in(thing, text)
    check_few_plans(thing, plans)
    return Code(program, plans)


def code_standings(thing, text, plans):
    """All standings that are met, over all weavings; TooMany(3000) if there are more."""
    code = code_of(thing, text, plans)
    return Standings(code.start(), lambda standing: code.steps_at(standing), MOST_STANDINGS)
