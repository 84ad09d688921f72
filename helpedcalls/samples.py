"""Programs to try, and reports on programs (point 14)."""

from helpedcalls.codes import code_standings
from helpedcalls.errors import BadProgram
from helpedcalls.judging import first_bad
from helpedcalls.rings import each_ends_alone, everybody_hears, somebody_hears

# Each sample is made of its own lines, of the sum, of more lines of its own, and of the method look.
_AHEAD = {
    "reads": ("cells 0", "on add"),
    "tries": ("cells 0", "on add", "again:"),
    "locks": ("cells 0 0", "on add", "again:", "swap o 1 0 1", "if o = 0 go again"),
    "turns": ("cells 0 none none", "on add"),
}
_SUM = ("read r 0", "set s r + a", "if s < 2 go put", "set s s - 2", "put:")
_BEHIND = {
    "reads": ("write 0 s", "answer r"),
    "tries": ("swap o 0 r s", "if o = 0 go again", "answer r"),
    "locks": ("write 0 s", "write 1 0", "answer r"),
    "turns": ("write 1 s", "read t 1", "write 0 t", "answer r"),
}
_LOOK = ("on look", "read r 0", "answer r")


def sample(name):
    """The text of a program for ("counter", 2)."""
    if not isinstance(name, str) or name not in _AHEAD:
        raise BadProgram(None)
    return "\n".join(_AHEAD[name] + _SUM + _BEHIND[name] + _LOOK)


def report(thing, text, plans):
    """A text of five lines on a program with few plans."""
    standings = code_standings(thing, text, plans)
    bad = first_bad(thing, standings.moves)
    return "\n".join([
        f"standings {len(standings.rows)}",
        "one order yes" if bad is None else f"one order no {_digits(bad)}",
        f"each alone {_yes(each_ends_alone(standings.moves))}",
        f"somebody {_yes(somebody_hears(standings.moves))}",
        f"everybody {_yes(everybody_hears(standings.moves))}",
    ])


def _digits(weaving):
    return "".join([str(thread) for thread in weaving])


def _yes(holds):
    return "yes" if holds else "no"
