"""Plans of threads, and weavings of their steps, as far as they can be told without doing them."""

from helpedcalls.checks import has_call
from helpedcalls.errors import BadPlans, BadWeaving
from helpedcalls.events import THREADS
from helpedcalls.values import are_within

MOST_CALLS = 8
MOST_STEPS = 400


def check_plans(thing, value):
    """BadPlans for a value that is no plans."""
    if not isinstance(value, tuple) or not 1 <= len(value) <= THREADS:
        raise BadPlans()
    if not all([_is_plan(thing, plan) for plan in value]):
        raise BadPlans()


def _is_plan(thing, value):
    if not isinstance(value, tuple) or len(value) > MOST_CALLS:
        return False
    return all([has_call(thing, call) for call in value])


def check_few_plans(thing, value):
    """BadPlans for a value that is no few plans."""
    check_plans(thing, value)
    many = sum([len(plan) for plan in value])
    if len(value) > 3 or many > 4 or (len(value) == 3 and many > 3):
        raise BadPlans()


def check_row_of_threads(value):
    """BadWeaving(None) for a value that is no tuple of at most 400 threads."""
    if not are_within(value, 0, THREADS - 1) or len(value) > MOST_STEPS:
        raise BadWeaving(None)
