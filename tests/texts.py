"""Texts of programs that several test files use."""

from helpedcalls.objects import calls

COUNTER = ("counter", 2)
ADD, LOOK = ("add", 1), ("look",)
BOTH = ((ADD,), (ADD,))
SAMPLES = {
    "reads": """cells 0
on add
read r 0
set s r + a
if s < 2 go put
set s s - 2
put:
write 0 s
answer r
on look
read r 0
answer r""",
    "tries": """cells 0
on add
again:
read r 0
set s r + a
if s < 2 go put
set s s - 2
put:
swap o 0 r s
if o = 0 go again
answer r
on look
read r 0
answer r""",
    "locks": """cells 0 0
on add
again:
swap o 1 0 1
if o = 0 go again
read r 0
set s r + a
if s < 2 go put
set s s - 2
put:
write 0 s
write 1 0
answer r
on look
read r 0
answer r""",
    "turns": """cells 0 none none
on add
read r 0
set s r + a
if s < 2 go put
set s s - 2
put:
write 1 s
read t 1
write 0 t
answer r
on look
read r 0
answer r""",
}
# Threads of unlike plans for the samples.
SOME_PLANS = [
    BOTH, ((ADD,),), ((LOOK,),), ((ADD,), (LOOK,)), ((ADD, LOOK),), ((ADD, LOOK), (ADD,)), ((), (ADD,)), ((LOOK,), ()),
    ((ADD,), (LOOK,), (ADD,)), ((LOOK, LOOK), (ADD, ADD)), ((), ()), ((),), ((LOOK,), (), (ADD,)),
]


def text(*lines):
    return "\n".join(lines)


def made(add=("answer 0",), look=("answer 0",), cells="cells 0", more=()):
    """A program for a counter, by the lines of its methods."""
    return text(cells, "on add", *add, "on look", *look, *more)


def counting(steps, last=("answer 0",)):
    """A program whose call look counts so many steps in its registers, and does the last lines then.

    In each of these steps it reads a cell; where the last lines begin with a shared one, that is the next step.
    """
    digits = f"{steps:04d}"
    lines = ["set i 0", "set j 0", "set k 0", "set l 0", "top:", "read z 0"]
    for letter in "ijkl":
        lines += [f"set {letter} {letter} + 1", f"if 0 < {letter} go test"]
    lines += ["test:"]
    for letter, digit in zip("ijkl", digits[::-1]):
        lines += [f"if {letter} < {digit} go top", f"if {digit} < {letter} go top"]
    return made(look=lines + list(last))


def some_method(chance, name, cells, length):
    """The lines of a method by chance: swaps are often done again until they succeed."""
    lines = [f"on {name}", "top:"]

    def atom():
        return chance.choice(["a", "b", "r", "s", "none", "0", "1", "2"])

    for _ in range(length):
        kind, letter, cell = chance.randrange(9), chance.choice("rs"), chance.choice([*map(str, range(cells)), atom()])
        worth = chance.choice([atom(), f"{atom()} {chance.choice('+-')} {atom()}"])
        if kind < 3:
            lines.append(f"read {letter} {cell}")
        elif kind < 4:
            lines.append(f"write {cell} {worth}")
        elif kind < 6:
            lines.append(f"swap {letter} {cell} {atom()} {atom()}")
            lines.append(f"if {letter} = {chance.choice('01')} go {chance.choice(['top', 'end'])}")
        elif kind < 7:
            lines.append(f"set {letter} {worth}")
        else:
            lines.append(f"if {atom()} {chance.choice('=<')} {atom()} go {chance.choice(['top', 'end'])}")
    last = chance.choice(["answer r", "answer s", "answer a", "answer yes", "answer no", "answer none", "answer 0", "go top"])
    return lines + ["end:", last]


def some_text(chance, thing, length):
    """A text that may be a program for the object: all its lines are right, but they may lead in rings."""
    cells = chance.randrange(1, 4)
    lines = ["cells " + " ".join(chance.choice(["0", "1", "none"]) for _ in range(cells))]
    for name in sorted({call[0] for call in calls(thing)}):
        lines += some_method(chance, name, cells, chance.randrange(1, length + 1))
    return text(*lines)


def some_plans(chance, thing, shapes):
    return tuple(tuple(chance.choice(calls(thing)) for _ in range(many)) for many in chance.choice(shapes))
