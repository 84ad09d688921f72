"""The parts of a graph: two places are in one part if each of them leads to the other."""


def part_numbers(ways):
    """For each place a number that all places of its part have; ways tells for each place those that it leads to."""
    numbers = [None] * len(ways)
    back = _turned(ways)
    # A place that is closed last leads to all others that lead to it, so only its own part leads back to it.
    for first in _closed(ways)[::-1]:
        waiting = [first]
        while len(waiting) > 0:
            at = waiting.pop()
            if numbers[at] is None:
                numbers[at] = first
                waiting.extend([other for other in back[at] if numbers[other] is None])
    return numbers


def _turned(ways):
    back = [[] for _ in ways]
    for at, row in enumerate(ways):
        for behind in row:
            back[behind].append(at)
    return back


def _closed(ways):
    """The places, each one when all ways on from it have been gone."""
    closed = []
    met = [False] * len(ways)
    for first in range(len(ways)):
        # Each place of the path stands with how many of its ways have been gone.
        path = [(first, 0)]
        while len(path) > 0:
            at, gone = path.pop()
            if gone == 0 and met[at]:
                continue
            met[at] = True
            if gone < len(ways[at]):
                path.append((at, gone + 1))
                path.append((ways[at][gone], 0))
            else:
                closed.append(at)
    return closed
