"""Reading a history event by event: in which ways the calls begun may have been done so far."""

from helpedcalls.events import THREADS
from helpedcalls.paths import path_to
from helpedcalls.steps import start, step
from helpedcalls.values import same


class Judge:
    """Tells of each event whether an order still explains the history.

    A guess is the state and for each thread None, (call,) for an open call that is not done yet, or (call, answer)
    for one that is. All guesses that fit the events so far are kept, as ascending numbers: a history is explained if
    one is left. Numbers are given here, for guesses themselves have no order.
    """

    def __init__(self, thing):
        self.thing = thing
        self.known = []
        # The call stands in a mark so that guesses that are equal as keys have answers of the same kinds.
        self.numbers = {}

    def first(self):
        """What is kept ahead of all events."""
        return self.keep([(start(self.thing), (None,) * THREADS)])

    def hear(self, kept, event):
        """What is kept behind one more event, () if no order explains the history."""
        word, thread, told = event
        guesses = [self.known[number] for number in kept]
        if word == "call":
            return self.keep(_spread(self.thing, [_marked(guess, thread, (told,)) for guess in guesses]))
        return self.keep([_marked(guess, thread, None) for guess in guesses if _has_heard(guess[1][thread], told)])

    def hear_all(self, kept, events):
        """What is kept behind more events."""
        for event in events:
            kept = self.hear(kept, event)
        return kept

    def keep(self, guesses):
        """The ascending numbers of guesses."""
        for guess in guesses:
            if guess not in self.numbers:
                self.numbers[guess] = len(self.known)
                self.known.append(guess)
        return tuple(sorted([self.numbers[guess] for guess in guesses]))


def _marked(guess, thread, mark):
    state, marks = guess
    return (state, marks[:thread] + (mark,) + marks[thread + 1:])


def _has_heard(mark, answer):
    return len(mark) == 2 and same(mark[1], answer)


def _spread(thing, guesses):
    """The guesses, and all that come from them if open calls are done."""
    found = list(guesses)
    met = {guess: True for guess in found}
    at = 0
    while at < len(found):
        state, marks = found[at]
        for thread, mark in enumerate(marks):
            if mark is not None and len(mark) == 1:
                behind, answer = step(thing, state, mark[0])
                guess = _marked((behind, marks), thread, (mark[0], answer))
                if guess not in met:
                    met[guess] = True
                    found.append(guess)
        at += 1
    return found


def first_bad(thing, moves):
    """The shortest weaving, the first of these in order, whose history no order explains, None if there is none.

    The moves of each standing stand by their threads; the weaving begins at the first standing.
    """
    judge = Judge(thing)
    nodes = [(0, judge.first())]
    came = [None]
    met = [[] for _ in moves]
    met[0].append(_bits(nodes[0][1]))
    at = 0
    # Nodes come by length, then by order of their paths, so the first one that is wrong ends the weaving asked for.
    while at < len(nodes):
        place, kept = nodes[at]
        for move in moves[place]:
            left = judge.hear_all(kept, move.events)
            if len(left) == 0:
                return path_to(came, at) + (move.thread,)
            bits = _bits(left)
            # Where guesses that came earlier are all among these, whatever is wrong here was wrong there first.
            if not any([(earlier & bits) == earlier for earlier in met[move.behind]]):
                met[move.behind].append(bits)
                nodes.append((move.behind, left))
                came.append((at, move.thread))
        at += 1
    return None


def _bits(numbers):
    return sum([1 << number for number in numbers])
