"""Methods of programs, and what is wrong in one (point 11)."""

_SHARED = ("read", "write", "swap", "answer")


class Method:
    """A method: the place of its line `on NAME` in the program, its rows, and the places of its labels in these."""

    def __init__(self, line):
        self.line = line
        self.rows = []
        self.labels = {}

    def take(self, row):
        """Puts a row at the end."""
        if row[0] == "label":
            self.labels.setdefault(row[1], len(self.rows))
        self.rows.append(row)

    def is_shared(self, at):
        """Whether the row at a place is a shared one."""
        return self.rows[at][0] in _SHARED

    def goal(self, at):
        """The place of the label that the row at a place goes to."""
        return self.labels[self.rows[at][-1]]

    def ways_on(self, at):
        """The places that can follow the row at a place, which is not shared."""
        word = self.rows[at][0]
        if word == "go":
            return [self.goal(at)]
        if word == "if":
            return [at + 1, self.goal(at)]
        return [at + 1]


def wrong_line(method):
    """The place in the program of the first wrong line of a method, None if none is wrong."""
    if len(method.rows) == 0:
        return method.line
    places = range(len(method.rows))
    wrong = [at for at in places if _has_wrong_label(method, at)]
    # Rows can be followed only if all labels stand there.
    if len(wrong) == 0:
        wrong = [at for at in places if _leads_wrong(method, at)]
    return method.line + 1 + wrong[0] if len(wrong) > 0 else None


def _has_wrong_label(method, at):
    row = method.rows[at]
    if row[0] == "label":
        return method.labels[row[1]] != at
    return row[0] in ("go", "if") and row[-1] not in method.labels


def _leads_wrong(method, at):
    if at == len(method.rows) - 1 and method.rows[at][0] not in ("answer", "go"):
        return True
    return not method.is_shared(at) and _leads_back_or_out(method, at)


def _leads_back_or_out(method, start):
    """Whether rows that are not shared lead from one of them back to it, or over the method's end."""
    waiting = method.ways_on(start)
    met = {}
    while len(waiting) > 0:
        at = waiting.pop()
        if at in (start, len(method.rows)):
            return True
        if at not in met and not method.is_shared(at):
            met[at] = True
            waiting.extend(method.ways_on(at))
    return False
