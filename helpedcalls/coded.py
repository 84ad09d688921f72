"""Programs that run with few plans, repeated for ever (point 12)."""

from helpedcalls.codes import code_of, code_standings
from helpedcalls.errors import BadWeaving
from helpedcalls.judging import first_bad
from helpedcalls.plans import check_row_of_threads


def code_history(thing, text, plans, weaving):
    """The history of a weaving."""
    return tuple(_ran(thing, text, plans, weaving)[1])


def cells_behind(thing, text, plans, weaving):
    """The tuple of the cells' values behind a weaving."""
    return _ran(thing, text, plans, weaving)[0][0]


def _ran(thing, text, plans, weaving):
    """The standing behind a weaving, and the list of its events."""
    code = code_of(thing, text, plans)
    check_row_of_threads(weaving)
    standing = code.start()
    events = []
    for at, thread in enumerate(weaving):
        if not code.has_step(thread):
            raise BadWeaving(at)
        standing, told = code.stepped(standing, thread)
        events.extend(told)
    return (standing, events)


def code_count(thing, text, plans):
    """How many standings are met over all weavings."""
    return len(code_standings(thing, text, plans).rows)


def code_bad(thing, text, plans):
    """The shortest weaving, the first of these in order, whose history no order explains, None if there is none."""
    return first_bad(thing, code_standings(thing, text, plans).moves)
