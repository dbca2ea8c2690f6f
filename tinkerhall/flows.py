"""The flow of a manual: its statements written out as numbered steps."""


class Writer:
    """Writes steps out; what comes next is told by marks, until all steps have their numbers."""

    def __init__(self, manual):
        self._manual = manual
        self._steps = []
        self._marks = 0
        # Each mark is that of a step, or means the same as another mark.
        self._numbers = {}
        self._same = {}

    def written(self):
        """The steps of the manual."""
        end = self._new_mark()
        waiting = [(self._manual.chapters[0][1], 0, self._new_mark(), end, None)]
        while waiting:
            body, at, mark, behind, outer = waiting.pop()
            if at == len(body):
                self._same[mark] = behind
                continue
            then = behind if at + 1 == len(body) else self._new_mark()
            if body[at][0] == "leave":
                # What stands behind a leave is not written out.
                self._same[mark] = outer
                continue
            if at + 1 < len(body):
                waiting.append((body, at + 1, then, behind, outer))
            inner = self._write(body[at], mark, then, outer)
            waiting.extend(inner[::-1])
        self._put(end, "quit")
        return tuple([self._with_numbers(step) for step in self._steps])

    def _write(self, statement, mark, then, outer):
        """Writes a statement as far as it is a step, and tells the bodies in it that are to be written next."""
        word = statement[0]
        if word == "if":
            yes, no = self._new_mark(), self._new_mark()
            self._put(mark, "if", statement[1], [yes, no])
            return [(statement[2], 0, yes, then, outer), (statement[3], 0, no, then, outer)]
        if word == "repeat":
            begins = [mark, *[self._new_mark() for _ in range(statement[1] - 1)]]
            ends = [*begins[1:], then]
            return [(statement[2], 0, begin, end, then) for begin, end in zip(begins, ends)]
        if word == "call":
            return [(self._manual[statement[1]], 0, mark, then, None)]
        if word in ("done", "quit"):
            self._put(mark, word)
        else:
            self._put(mark, *statement, [then])
        return []

    def _new_mark(self):
        self._marks += 1
        return self._marks

    def _put(self, mark, *told):
        """Puts a step behind the others; marks in it stand in a list at its end."""
        self._numbers[mark] = len(self._steps)
        self._steps.append(told)

    def _with_numbers(self, step):
        if not isinstance(step[-1], list):
            return step
        return (*step[:-1], *[self._number_of(mark) for mark in step[-1]])

    def _number_of(self, mark):
        while mark not in self._numbers:
            mark = self._same[mark]
        return self._numbers[mark]


def flow(manual):
    """The steps of the manual, each with the numbers of those that come next."""
    return Writer(manual).written()
