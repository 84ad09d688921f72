"""Events of histories and the calls that they tell of; a history of one object is read as one of several objects."""

from helpedcalls.checks import check_object, has_call
from helpedcalls.errors import BadHistory, BadObject
from helpedcalls.values import is_within, same

THREADS = 4
MOST_EVENTS = 24
MOST_OBJECTS = 3


class Span:
    """A call of a history: its thread, the place of its object, and the places of its events."""

    def __init__(self, thread, place, call, begin):
        self.thread = thread
        self.place = place
        self.call = call
        self.begin = begin
        self.end = None
        self.answer = None


def is_thread(value):
    """Whether any value is a thread."""
    return is_within(value, 0, THREADS - 1)


def _is_answer(value):
    # A bool is an int, too.
    return value is None or isinstance(value, int)


def widened(history):
    """The same events, of an object at place 0; what is no tuple stays as it is."""
    return tuple([_widened_event(event) for event in history])


def _widened_event(event):
    if not isinstance(event, tuple):
        return event
    return event[:2] + (0,) + event[2:]


def narrowed(wide, place):
    """The history of the object at a place."""
    return tuple([event[:2] + event[3:] for event in wide if event[2] == place])


def _can_come(things, places, event):
    """Whether an event can come; places has the object that each thread's open call went to."""
    if not isinstance(event, tuple) or len(event) != 4:
        return False
    word, thread, place, told = event
    if not is_thread(thread) or not is_within(place, 0, len(things) - 1):
        return False
    if same(word, "call"):
        return thread not in places and has_call(things[place], told)
    return same(word, "answer") and thread in places and places[thread] == place and _is_answer(told)


def wrong_place(things, wide):
    """The place of the first wrong event, None if there is none."""
    places = {}
    for at, event in enumerate(wide):
        if at == MOST_EVENTS or not _can_come(things, places, event):
            return at
        if event[0] == "call":
            places[event[1]] = event[2]
        else:
            del places[event[1]]
    return None


def has_history(thing, value):
    """Whether any value is a history of an object."""
    return isinstance(value, tuple) and wrong_place((thing,), widened(value)) is None


def has_wide_history(things, value):
    """Whether any value is a history of several objects."""
    return isinstance(value, tuple) and wrong_place(things, value) is None


def check_history(thing, value):
    """BadHistory for a value that is no history of the object."""
    if not isinstance(value, tuple):
        raise BadHistory(None)
    check_wide_history((thing,), widened(value))


def check_wide_history(things, value):
    """BadHistory for a value that is no history of the objects."""
    if not isinstance(value, tuple):
        raise BadHistory(None)
    at = wrong_place(things, value)
    if at is not None:
        raise BadHistory(at)


def check_things(value):
    """BadObject for a value that is no tuple of 1 to 3 objects."""
    if not isinstance(value, tuple) or not 1 <= len(value) <= MOST_OBJECTS:
        raise BadObject()
    for thing in value:
        check_object(thing)


def spans_in(wide):
    """The list of the calls of a history of several objects, by their beginnings."""
    found = []
    latest = {}
    for at, (word, thread, place, told) in enumerate(wide):
        if word == "call":
            latest[thread] = Span(thread, place, told, at)
            found.append(latest[thread])
        else:
            span = latest[thread]
            span.end = at
            span.answer = told
    return found
