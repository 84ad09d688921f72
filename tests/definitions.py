"""The document's own definitions, said again in another way than the program does, for tests to go through."""

import itertools

from helpedcalls.objects import applied, calls, first_state
from helpedcalls.values import same


def calls_in(history):
    """(thread, place, call, begin, end, answer) by begin, of events with a place or without one; end -1 if open."""
    found = []
    for begin, event in enumerate(history):
        if event[0] != "call":
            continue
        later = [at for at in range(begin, len(history)) if history[at][:2] == ("answer", event[1])]
        end, answer = (later[0], history[later[0]][-1]) if later else (-1, None)
        place = event[2] if len(event) == 4 else 0
        found.append((event[1], place, event[-1], begin, end, answer))
    return found


def stands_ahead(one, other):
    return one[4] != -1 and one[4] < other[3]


def stands_before(one, other):
    return one[0] == other[0] and one[3] < other[3]


def is_order(things, history, order, rule):
    """Whether a tuple is an order of the history that keeps to a rule and gives the answers heard."""
    told = calls_in(history)
    if not isinstance(order, tuple) or any(type(at) is not int for at in order):
        return False
    if len(set(order)) != len(order) or any(not 0 <= at < len(told) for at in order):
        return False
    if any(call[4] != -1 and at not in order for at, call in enumerate(told)):
        return False
    for later, earlier in itertools.combinations(range(len(order)), 2):
        if rule(told[order[earlier]], told[order[later]]):
            return False
    states = [first_state(thing) for thing in things]
    for at in order:
        _, place, call, _, end, answer = told[at]
        states[place], given = applied(things[place], states[place], call)
        if end != -1 and not same(given, answer):
            return False
    return True


def explains(thing, history, order):
    return is_order((thing,), history, order, stands_ahead)


def stands_in_step(thing, history, order):
    return is_order((thing,), history, order, stands_before)


def explains_all(things, history, order):
    return is_order(things, history, order, stands_ahead)


def all_orders(things, history, rule):
    """All orders that keep to a rule, out of all rows of unlike places."""
    many = len(calls_in(history))
    rows = [row for length in range(many + 1) for row in itertools.permutations(range(many), length)]
    return [row for row in rows if is_order(things, history, row, rule)]


def some_history(chance, things, events, wide=False, lie=0.1):
    """A history by chance: calls are done at their answers, and some answers are lies."""
    told, going, states = [], {}, [first_state(thing) for thing in things]
    while len(told) < events:
        thread = chance.randrange(4)
        if thread not in going:
            place = chance.randrange(len(things))
            call = chance.choice(calls(things[place]))
            going[thread] = [place, call, None]
            told.append(("call", thread, place, call))
            continue
        for other in chance.sample(sorted(going), chance.randrange(len(going) + 1)) + [thread]:
            place, call, heard = going[other]
            if heard is None:
                states[place], answer = applied(things[place], states[place], call)
                going[other][2] = (answer,)
        place, call, (answer,) = going.pop(thread)
        if chance.random() < lie:
            answer = chance.choice([None, False, True, 0, 1, 2])
        told.append(("answer", thread, place, answer))
    return tuple(told) if wide else tuple([event[:2] + event[3:] for event in told])


class Model:
    """Threads that share an object, each call a generator that stops behind each step and tells what it holds."""

    def __init__(self, way, thing, plans):
        self.thing, self.plans, many = thing, plans, len(plans)
        self.top = [0, first_state(thing), [0] * many, [None] * many]
        self.announced = [(0, None)] * many
        self.lock = "free"
        self.body = getattr(self, way)
        self.running = [None] * many
        self.holds = [None] * many
        self.ended = [0] * many
        self.steps = [[] for _ in plans]
        self.history, self.log = [], []

    def do(self, call):
        self.top[1], answer = applied(self.thing, self.top[1], call)
        return answer

    def going(self):
        return [thread for thread, plan in enumerate(self.plans) if self.ended[thread] < len(plan)]

    def go(self, thread):
        if self.running[thread] is None:
            call = self.plans[thread][self.ended[thread]]
            self.history.append(("call", thread, call))
            self.steps[thread].append(0)
            self.running[thread] = self.body(thread, self.ended[thread] + 1, call)
        self.steps[thread][-1] += 1
        try:
            self.holds[thread] = next(self.running[thread])
        except StopIteration as last:
            self.history.append(("answer", thread, last.value))
            self.running[thread], self.holds[thread] = None, None
            self.ended[thread] += 1

    def standing(self):
        """All that the document counts as a standing."""
        cells = (repr(self.top), repr(self.announced), self.lock)
        return cells + (tuple(self.ended), tuple(map(repr, self.holds)))

    def helped(self, thread, m, call):
        self.announced[thread] = (m, call)
        yield "read TOP"
        while True:
            seen = repr(self.top)
            count, _, done, answers = self.top
            if done[thread] == m:
                return answers[thread]
            turn = count % len(self.plans)
            wanted = done[turn] + 1
            yield ("read the cell", seen)
            number, other = self.announced[turn]
            chosen = (turn, other) if number == wanted else (thread, call)
            yield ("swap", seen, chosen)
            if repr(self.top) == seen:
                self.log.append((chosen[0], self.top[2][chosen[0]]))
                answer = self.do(chosen[1])
                self.top[0] += 1
                self.top[2] = [many + (who == chosen[0]) for who, many in enumerate(self.top[2])]
                self.top[3] = [answer if who == chosen[0] else old for who, old in enumerate(self.top[3])]
            yield "read TOP"

    def retried(self, thread, m, call):
        while True:
            seen = repr(self.top[:2])
            yield ("swap", seen)
            if repr(self.top[:2]) == seen:
                self.log.append((thread, m - 1))
                self.top[0] += 1
                return self.do(call)
            yield "read"

    def locked(self, thread, m, call):
        while self.lock == "taken":
            yield "take"
        self.lock = "taken"
        yield "read"
        behind, answer = applied(self.thing, self.top[1], call)
        yield ("write", behind, answer)
        self.top[1] = behind
        self.log.append((thread, m - 1))
        yield ("give", behind, answer)
        self.lock = "free"
        return answer

    def naive(self, thread, m, call):
        seen = self.top[1]
        yield ("write", seen)
        self.top[1], answer = applied(self.thing, seen, call)
        self.log.append((thread, m - 1))
        return answer


def modelled(way, thing, plans, weaving):
    model = Model(way, thing, plans)
    for thread in weaving:
        model.go(thread)
    return model


def all_standings(way, thing, plans):
    """For each standing that is met the shortest weaving that leads to it, the first of these in order."""
    found = {modelled(way, thing, plans, ()).standing(): ()}
    for weaving in found_as_they_come(found):
        for thread in modelled(way, thing, plans, weaving).going():
            longer = weaving + (thread,)
            found.setdefault(modelled(way, thing, plans, longer).standing(), longer)
    return found


def found_as_they_come(found):
    done = 0
    while done < len(found):
        rows = list(found.values())[done:]
        done += len(rows)
        yield from rows


def all_weavings(way, thing, plans, most=400):
    """All weavings of at most so many steps, by length, then in order, each with its model."""
    rows = [()]
    while rows:
        longer = []
        for weaving in rows:
            model = modelled(way, thing, plans, weaving)
            yield weaving, model
            if len(weaving) < most:
                longer.extend(weaving + (thread,) for thread in model.going())
        rows = longer


WAYS = ("helped", "retried", "locked", "naive")
