"""Ways of sharing an object: what a weaving leads to, and what all weavings of few plans can (points 7 to 10)."""

from helpedcalls.checks import check_call, check_object
from helpedcalls.errors import BadPlans
from helpedcalls.judging import first_bad
from helpedcalls.runs import ran
from helpedcalls.standings import met
from helpedcalls.steps import reached
from helpedcalls.values import is_within
from helpedcalls.ways import has_open_call, has_step, state_in


def history_of(way, thing, plans, weaving):
    """The history of a weaving."""
    return tuple(ran(way, thing, plans, weaving).events)


def own_steps(way, thing, plans, weaving):
    """For each thread the tuple of the numbers of steps of its calls that were begun."""
    return tuple([tuple(counts) for counts in ran(way, thing, plans, weaving).steps])


def state_behind(way, thing, plans, weaving):
    """The state of the object behind a weaving."""
    return state_in(way, ran(way, thing, plans, weaving).standing)


def going(way, thing, plans, weaving):
    """The ascending tuple of the threads that have a step behind a weaving."""
    standing = ran(way, thing, plans, weaving).standing
    return tuple([thread for thread in range(len(plans)) if has_step(plans, standing, thread)])


def applied_order(way, thing, plans, weaving):
    """The tuple of (thread, number) of the calls in the sequence in which they were applied."""
    return tuple(ran(way, thing, plans, weaving).applied)


def alone(way, thing, plans, weaving, thread):
    """How many steps end the open call of a thread that goes on alone; 0 if it has none, None if it never ends."""
    run = ran(way, thing, plans, weaving)
    if not is_within(thread, 0, len(plans) - 1):
        return 0
    many = 0
    while has_open_call(run.standing, thread):
        ahead = run.standing
        run.go(thread)
        if run.standing == ahead:
            return None
        many += 1
    return many


def bound(many):
    """More own steps than these no call of "helped" takes with so many threads."""
    return 3 * many + 5


def starving(thing, call, other, many):
    """Plans and a weaving by which the one call of thread 0 takes 2 * many + 2 steps, retried."""
    check_object(thing)
    check_call(thing, call)
    check_call(thing, other)
    if not is_within(many, 0, 8):
        raise BadPlans()
    return (((call,), (other,) * many), (0,) + (1, 1, 0, 0) * many + (0,))


def standing_count(way, thing, plans):
    """How many standings are met over all weavings."""
    return len(met(way, thing, plans).rows)


def most_steps(way, thing, plans):
    """For each thread the tuple of the greatest numbers of own steps of its calls, None where there is no greatest."""
    standings = met(way, thing, plans)
    most = [[0] * len(plan) for plan in plans]
    # For each standing and thread the greatest number of steps that its open call has taken so far.
    counts = [[0] * len(plans) for _ in standings.rows]
    for at in standings.in_sequence():
        for move in standings.moves[at]:
            if move.behind == at:
                counts[at][move.thread] = None
        for move in standings.moves[at]:
            if move.behind != at:
                number = standings.rows[at][1][move.thread][0]
                _count_move(most, number, counts[at], counts[move.behind], move)
    return tuple([tuple(row) for row in most])


def _count_move(most, number, ahead, behind, move):
    """Takes the counts at a standing over to the one behind a move, and that of a call that ends to the most."""
    counts = list(ahead)
    own = counts[move.thread]
    counts[move.thread] = None if own is None else own + 1
    if move.ends():
        row = most[move.thread]
        row[number] = _greater(row[number], counts[move.thread])
        counts[move.thread] = 0
    for thread, count in enumerate(counts):
        behind[thread] = _greater(behind[thread], count)


def _greater(one, other):
    if one is None or other is None:
        return None
    return max(one, other)


def outcomes(way, thing, plans):
    """The ascending tuple of the unlike answers that whole weavings can give."""
    standings = met(way, thing, plans)
    nodes = [(0, ((),) * len(plans))]
    seen = {nodes[0]: True}
    told = {}
    at = 0
    # No call answers both 1 and True, so answers that are equal as keys are the same.
    while at < len(nodes):
        place, heard = nodes[at]
        if len(standings.moves[place]) == 0:
            told[heard] = True
        for move in standings.moves[place]:
            node = (move.behind, _heard_behind(heard, move))
            if node not in seen:
                seen[node] = True
                nodes.append(node)
        at += 1
    return tuple(sorted(list(told), key=_ranks))


def _heard_behind(heard, move):
    if not move.ends():
        return heard
    _, thread, answer = move.events[-1]
    return heard[:thread] + (heard[thread] + (answer,),) + heard[thread + 1:]


def _ranks(heard):
    return tuple([tuple([_rank(answer) for answer in row]) for row in heard])


def _rank(answer):
    if answer is None:
        return (0, 0)
    if isinstance(answer, bool):
        return (2, 0) if answer else (1, 0)
    return (3, answer)


def last_states(way, thing, plans):
    """The tuple of the states that are left at the end of a whole weaving, in the order of states."""
    standings = met(way, thing, plans)
    ends = [standing for standing, row in zip(standings.rows, standings.moves) if len(row) == 0]
    left = {state_in(way, standing): True for standing in ends}
    return tuple([state for state in reached(thing) if state in left])


def bad_weaving(way, thing, plans):
    """The shortest weaving, the first of these in order, whose history no order explains, None if there is none."""
    return first_bad(thing, met(way, thing, plans).moves)
