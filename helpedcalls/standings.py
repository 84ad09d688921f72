"""All standings that few plans meet, over all weavings (points 10 and 12)."""

from helpedcalls.checks import check_object
from helpedcalls.errors import TooMany
from helpedcalls.plans import check_few_plans
from helpedcalls.ways import first_standing, steps_at


class Move:
    """A step at a standing: its thread, the place of the standing behind it, and its events."""

    def __init__(self, thread, behind, events):
        self.thread = thread
        self.behind = behind
        self.events = events

    def ends(self):
        """Whether a call ends by the step."""
        return len(self.events) > 0 and self.events[-1][0] == "answer"


class Standings:
    """The standings in the order of their coming, the first one too, and for each of them the list of its moves.

    The function follow tells of a standing the triples (thread, standing behind its step, events of the step).
    """

    def __init__(self, first, follow, most):
        self.rows = [first]
        self.moves = []
        places = {first: 0}
        while len(self.moves) < len(self.rows):
            row = []
            steps = follow(self.rows[len(self.moves)])
            for thread, behind, events in steps:
                if behind not in places:
                    places[behind] = len(self.rows)
                    self.rows.append(behind)
                row.append(Move(thread, places[behind], events))
            self.moves.append(row)
            if most is not None and len(self.rows) > most:
                raise TooMany(most)

    def in_sequence(self):
        """The places of the standings, each one behind all from which a move leads to it.

        There are such, for no moves lead back to a standing but those that leave it as it is, which do not count.
        """
        waiting = [0] * len(self.rows)
        for at, row in enumerate(self.moves):
            for move in row:
                if move.behind != at:
                    waiting[move.behind] += 1
        found = [0]
        done = 0
        while done < len(found):
            at = found[done]
            for move in self.moves[at]:
                if move.behind != at:
                    waiting[move.behind] -= 1
                    if waiting[move.behind] == 0:
                        found.append(move.behind)
            done += 1
        return found


def met(way, thing, plans):
    """The standings of few plans; the error of the first wrong argument if one is wrong."""
    check_object(thing)
    check_few_plans(thing, plans)
    return Standings(first_standing(way, thing, plans), lambda standing: steps_at(way, thing, plans, standing), None)
