"""The four ways of sharing an object, step by step (point 8). Nothing is checked here.

A standing is the pair of the cells and, for each thread, of (how many calls have ended, which step is next, what it
has read and will use). The function of a way takes the object, the cells, and the turn of a thread: (thread, number
of its call, call, which step it is, what it has read). It gives the cells, the next step, what is read now, and what
was done by the step: (answer,) if the call ends or else (), and ((thread, number),) of a call that is applied or ().
"""

from helpedcalls.steps import start, step

# The first step of a call, which is next as long as no call is open.
BEGIN = "begin"


def _with_item(row, at, item):
    return row[:at] + (item,) + row[at + 1:]


def _helped_cells(thing, many):
    top = (0, start(thing), (0,) * many, (None,) * many)
    return (top,) + ((0, None),) * many


def _helped_step(thing, cells, turn):
    thread, number, call, at, held = turn
    top = cells[0]
    if at == BEGIN:
        return (_with_item(cells, thread + 1, (number + 1, call)), "top", None, (), ())
    if at == "top":
        if top[2][thread] == number + 1:
            return (cells, BEGIN, None, (top[3][thread],), ())
        return (cells, "cell", top, (), ())
    if at == "cell":
        return (cells, "swap", (held, _chosen(cells, held, (thread, call))), (), ())
    if held[0] != top:
        return (cells, "top", None, (), ())
    chosen = held[1]
    top_behind = _top_behind(thing, top, chosen)
    return ((top_behind,) + cells[1:], "top", None, (), ((chosen[0], top[2][chosen[0]]),))


def _chosen(cells, top, own):
    """The thread whose turn it is to be helped, with the call it has announced, or else the own pair."""
    count, _, done, _ = top
    thread = count % len(done)
    number, call = cells[thread + 1]
    if number == done[thread] + 1:
        return (thread, call)
    return own


def _top_behind(thing, top, chosen):
    count, state, done, answers = top
    thread, call = chosen
    behind, answer = step(thing, state, call)
    return (count + 1, behind, _with_item(done, thread, done[thread] + 1), _with_item(answers, thread, answer))


def _retried_cells(thing, many):
    return (0, start(thing))


def _retried_step(thing, cells, turn):
    thread, number, call, at, held = turn
    if at != "swap":
        return (cells, "swap", cells, (), ())
    if cells != held:
        return (cells, "read", None, (), ())
    count, state = cells
    behind, answer = step(thing, state, call)
    return ((count + 1, behind), BEGIN, None, (answer,), ((thread, number),))


def _locked_cells(thing, many):
    return (False, start(thing))


def _locked_step(thing, cells, turn):
    thread, number, call, at, held = turn
    taken, state = cells
    if at in (BEGIN, "take"):
        if taken:
            return (cells, "take", None, (), ())
        return ((True, state), "read", None, (), ())
    if at == "read":
        return (cells, "write", step(thing, state, call), (), ())
    if at == "write":
        return ((taken, held[0]), "give", held, (), ((thread, number),))
    return ((False, state), BEGIN, None, (held[1],), ())


def _naive_cells(thing, many):
    return (start(thing),)


def _naive_step(thing, cells, turn):
    thread, number, call, at, held = turn
    if at == BEGIN:
        return (cells, "write", cells[0], (), ())
    behind, answer = step(thing, held, call)
    return ((behind,), BEGIN, None, (answer,), ((thread, number),))


_CELLS = {"helped": _helped_cells, "retried": _retried_cells, "locked": _locked_cells, "naive": _naive_cells}
_STEPS = {"helped": _helped_step, "retried": _retried_step, "locked": _locked_step, "naive": _naive_step}


def first_standing(way, thing, plans):
    """The standing ahead of all steps."""
    action = _CELLS[way]
    return (action(thing, len(plans)), ((0, BEGIN, None),) * len(plans))


def state_in(way, standing):
    """The state of the object at a standing."""
    cells = standing[0]
    return cells[0][1] if way == "helped" else cells[-1]


def has_step(plans, standing, thread):
    """Whether a thread has a step at a standing."""
    return thread < len(plans) and standing[1][thread][0] < len(plans[thread])


def has_open_call(standing, thread):
    """Whether a call of a thread is open at a standing."""
    return standing[1][thread][1] != BEGIN


def stepped(way, thing, plans, standing, thread):
    """The standing behind a step of a thread, the events of the step, and the calls that it applies."""
    cells, rows = standing
    number, at, held = rows[thread]
    call = plans[thread][number]
    action = _STEPS[way]
    cells, then, held, answers, applied = action(thing, cells, (thread, number, call, at, held))
    events = [("answer", thread, answer) for answer in answers]
    if at == BEGIN:
        events = [("call", thread, call)] + events
    row = (number + len(answers), then, held)
    return ((cells, _with_item(rows, thread, row)), tuple(events), applied)


def steps_at(way, thing, plans, standing):
    """The triples (thread, standing behind its step, events of the step) of the threads that have a step."""
    threads = [thread for thread in range(len(plans)) if has_step(plans, standing, thread)]
    return [(thread,) + stepped(way, thing, plans, standing, thread)[:2] for thread in threads]
