"""The calls of an object and what they do, kind by kind. Nothing is checked here."""


def _counter_calls(thing):
    return [("add", k) for k in range(1, thing[1])] + [("look",)]


def _counter_step(thing, state, call):
    if call[0] == "look":
        return (state, state)
    return ((state + call[1]) % thing[1], state)


def _register_calls(thing):
    puts = [("put", k) for k in range(thing[1])]
    return [("look",)] + puts + [("trade", k) for k in range(thing[1])]


def _register_step(thing, state, call):
    if call[0] == "look":
        return (state, state)
    if call[0] == "put":
        return (call[1], None)
    return (call[1], state)


def _stack_calls(thing):
    return [("pop",)] + [("push", k) for k in range(thing[2])]


def _stack_step(thing, state, call):
    if call[0] == "push":
        return _put_at_end(thing, state, call[1])
    if len(state) == 0:
        return (state, None)
    return (state[:-1], state[-1])


def _queue_calls(thing):
    return [("enter", k) for k in range(thing[2])] + [("leave",)]


def _queue_step(thing, state, call):
    if call[0] == "enter":
        return _put_at_end(thing, state, call[1])
    if len(state) == 0:
        return (state, None)
    return (state[1:], state[0])


def _put_at_end(thing, state, k):
    if len(state) == thing[1]:
        return (state, False)
    return (state + (k,), True)


def _set_calls(thing):
    return [(word, k) for word in ("add", "drop", "has") for k in range(thing[1])]


def _set_step(thing, state, call):
    word, k = call
    held = k in state
    if word == "has":
        return (state, held)
    others = [member for member in state if member != k]
    if word == "drop":
        return (tuple(others), held)
    return (tuple(sorted(others + [k])), not held)


def _agree_calls(thing):
    return [("decide", k) for k in range(thing[1])]


def _agree_step(thing, state, call):
    told = call[1] if state is None else state
    return (told, told)


def _bank_calls(thing):
    places = range(len(thing[1]))
    looks = [("look", a) for a in places]
    return looks + [("move", a, b, k) for a in places for b in places if a != b for k in range(1, 4)]


def _bank_step(thing, state, call):
    if call[0] == "look":
        return (state, state[call[1]])
    _, giver, taker, many = call
    if state[giver] < many:
        return (state, False)
    amounts = list(state)
    amounts[giver] -= many
    amounts[taker] += many
    return (tuple(amounts), True)


def _table_calls(thing):
    return [("do", c) for c in range(len(thing[1][0]))]


def _table_step(thing, state, call):
    return thing[1][state][call[1]]


_CALLS = {
    "counter": _counter_calls,
    "register": _register_calls,
    "stack": _stack_calls,
    "queue": _queue_calls,
    "set": _set_calls,
    "agree": _agree_calls,
    "bank": _bank_calls,
    "table": _table_calls,
}

_STEPS = {
    "counter": _counter_step,
    "register": _register_step,
    "stack": _stack_step,
    "queue": _queue_step,
    "set": _set_step,
    "agree": _agree_step,
    "bank": _bank_step,
    "table": _table_step,
}


def call_rows(thing):
    """The ascending list of the calls of an object."""
    action = _CALLS[thing[0]]
    return action(thing)


def step(thing, state, call):
    """The pair of the state behind a call at a state, and its answer."""
    action = _STEPS[thing[0]]
    return action(thing, state, call)


def start(thing):
    """The first state of an object."""
    if thing[0] == "agree":
        return None
    if thing[0] == "bank":
        return thing[1]
    if thing[0] in ("stack", "queue", "set"):
        return ()
    return 0


def reached(thing):
    """The list of all states that come from the first one, in the order of their coming."""
    rows = call_rows(thing)
    found = [start(thing)]
    met = {found[0]: True}
    at = 0
    while at < len(found):
        for call in rows:
            behind = step(thing, found[at], call)[0]
            if behind not in met:
                met[behind] = True
                found.append(behind)
        at += 1
    return found


def run(thing, row):
    """The pair of the tuple of the answers and the last state, of calls one after the other."""
    state = start(thing)
    answers = []
    for call in row:
        state, answer = step(thing, state, call)
        answers.append(answer)
    return (tuple(answers), state)
