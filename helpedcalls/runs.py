"""Weavings that are done step by step."""

from helpedcalls.checks import check_object
from helpedcalls.errors import BadWeaving
from helpedcalls.plans import check_plans, check_row_of_threads
from helpedcalls.ways import first_standing, has_step, stepped


class Run:
    """The standing of plans behind some steps, and what has happened by them."""

    def __init__(self, way, thing, plans):
        self.way = way
        self.thing = thing
        self.plans = plans
        self.standing = first_standing(way, thing, plans)
        self.events = []
        self.applied = []
        # For each thread the numbers of steps of the calls that it has begun.
        self.steps = [[] for _ in plans]

    def go(self, thread):
        """One step of a thread that has one."""
        self.standing, events, applied = stepped(self.way, self.thing, self.plans, self.standing, thread)
        counts = self.steps[thread]
        if len(events) > 0 and events[0][0] == "call":
            counts.append(0)
        counts[-1] += 1
        self.events.extend(events)
        self.applied.extend(applied)


def ran(way, thing, plans, weaving):
    """The run of a weaving; the error of the first wrong argument if one is wrong."""
    check_object(thing)
    check_plans(thing, plans)
    check_row_of_threads(weaving)
    run = Run(way, thing, plans)
    for at, thread in enumerate(weaving):
        if not has_step(plans, run.standing, thread):
            raise BadWeaving(at)
        run.go(thread)
    return run
