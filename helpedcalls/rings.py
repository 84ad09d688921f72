"""Rings of steps: rounds that lead back to the same standing, so that they can be gone for ever (point 13).

The moves of each standing stand in a row. A ring is made of the moves in some rows; if a thread is told, not None, the
ring must have a step of it.
"""

from helpedcalls.events import THREADS
from helpedcalls.parts import part_numbers
from helpedcalls.paths import path_to
from helpedcalls.plans import MOST_STEPS
from helpedcalls.values import are_within


def silent_rows(moves):
    """The moves by which no answer is heard."""
    return [[move for move in row if not move.ends()] for row in moves]


def starving_rows(moves, thread):
    """The moves by which a thread hears no answer."""
    return [[move for move in row if move.thread != thread or not move.ends()] for row in moves]


def each_ends_alone(moves):
    """Whether each open call ends if its thread goes on alone."""
    return not any([_has_ring(_lonely_rows(moves, thread), thread) for thread in range(THREADS)])


def _lonely_rows(moves, thread):
    """The moves of a thread by which it hears no answer."""
    return [[move for move in row if move.thread == thread and not move.ends()] for row in moves]


def somebody_hears(moves):
    """Whether answers are heard again and again by somebody, however the steps go on."""
    return not _has_ring(silent_rows(moves), None)


def everybody_hears(moves):
    """Whether answers are heard again and again by each thread that has steps again and again."""
    return not any([_has_ring(starving_rows(moves, thread), thread) for thread in range(THREADS)])


def _has_ring(rows, thread):
    """Whether a ring is there."""
    return any([len(row) > 0 for row in _turning(rows, thread)])


def _turning(rows, thread):
    """The moves that rings are made of."""
    numbers = part_numbers([[move.behind for move in row] for row in rows])
    inner = [[move for move in row if numbers[move.behind] == numbers[at]] for at, row in enumerate(rows)]
    # A ring can go through a whole part, so one step of the thread is enough for all of its moves.
    found = {numbers[move.behind]: True for row in inner for move in row if thread in (None, move.thread)}
    return [[move for move in row if numbers[move.behind] in found] for row in inner]


def find_ring(moves, rows, thread):
    """A pair of a weaving and a ring behind it, of at most 400 steps together, None if there is none."""
    turning = _turning(rows, thread)
    for at, path in _shortest_paths(moves).items():
        if len(turning[at]) > 0:
            ring = _ring_from(turning, at, thread, MOST_STEPS - len(path))
            if ring is not None:
                return (path, ring)
    return None


def _shortest_paths(moves):
    """For each place the shortest weaving to it, by length."""
    paths = {0: ()}
    # Places are numbered as they come, so each one is met from a lower one.
    for at, row in enumerate(moves):
        for move in row:
            if move.behind not in paths:
                paths[move.behind] = paths[at] + (move.thread,)
    return paths


def _ring_from(rows, start, thread, most):
    """The shortest ring from a place back to it, None if it has more steps than so many."""
    # A node is a place, and whether the step that is needed has been done.
    first = (start, False)
    came = {first: None}
    level = [first]
    for _ in range(most):
        longer = []
        for node in level:
            for move in rows[node[0]]:
                behind = (move.behind, node[1] or thread in (None, move.thread))
                if behind not in came:
                    came[behind] = (node, move.thread)
                    longer.append(behind)
        if (start, True) in came:
            return path_to(came, (start, True))
        level = longer
    return None


def shows_ring(moves, rows, thread, value):
    """Whether any value is a pair that find_ring can give, or None where there is none."""
    if value is None:
        return find_ring(moves, rows, thread) is None
    if not isinstance(value, tuple) or len(value) != 2:
        return False
    if not all([are_within(part, 0, THREADS - 1) for part in value]):
        return False
    weaving, ring = value
    if len(ring) == 0 or len(weaving) + len(ring) > MOST_STEPS or (thread is not None and thread not in ring):
        return False
    at = _place_behind(moves, 0, weaving)
    return at is not None and _place_behind(rows, at, ring) == at


def _place_behind(rows, at, weaving):
    """The place behind a weaving from a place on, None if a thread has no such move."""
    for thread in weaving:
        behind = [move.behind for move in rows[at] if move.thread == thread]
        if len(behind) == 0:
            return None
        at = behind[0]
    return at
