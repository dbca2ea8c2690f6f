"""The lines of a manual, read."""

from tinkerhall.manuals import Manual
from tinkerhall.reading import Lines
from tinkerhall.statements import MOST_REPEATS, MOST_SIGN, MOST_TEST_STEPS, STATEMENTS

MOST_SIGNS = 3


def read_manual(lines):
    """The manual that the lines tell."""
    reader = Lines(lines)
    tests = []
    while reader.first_word() == "test":
        tests.append(_take_test(reader))
    chapters = []
    while reader.first_word() == "chapter":
        chapters.append(_take_chapter(reader))
    reader.finish()
    return Manual(tests, chapters)


def _take_test(reader):
    words = reader.begin("test")
    name = words.take_name()
    row = [words.take_step()]
    while len(row) < MOST_TEST_STEPS and words.coming() is not None:
        row.append(words.take_step())
    words.finish()
    return name, row


def _take_chapter(reader):
    words = reader.begin("chapter")
    name = words.take_name()
    words.finish()
    return name, _take_body(reader)


class Block:
    """A statement that has begun, and its bodies so far; a chapter has no statement."""

    def __init__(self, head):
        self.head = head
        self.bodies = [[]]

    def closing(self):
        """The words that can close the last body."""
        if self.head is None or self.head[0] == "repeat":
            return ["end"]
        if len(self.bodies) == 1:
            return ["else", "end"]
        return ["end"] if self.bodies[1] else []


def _take_body(reader):
    """The statements up to and with the end of the chapter."""
    # The opened that are open, the innermost one last.
    opened = [Block(None)]
    while opened:
        inner = opened[-1]
        word = reader.first_word()
        if word in STATEMENTS:
            statement = _take_statement(reader, word)
            if "body" in STATEMENTS[word]:
                opened.append(Block(statement))
            else:
                inner.bodies[-1].append(statement)
            continue
        allowed = inner.closing()
        words = reader.begin(*allowed)
        words.finish()
        if word == "else":
            inner.bodies.append([])
            continue
        opened.pop()
        if opened:
            opened[-1].bodies[-1].append(_whole(inner))
    return inner.bodies[0]


def _whole(block):
    """The statement of a block that is closed."""
    bodies = block.bodies
    if block.head[0] == "if" and len(bodies) == 1:
        bodies = [*bodies, []]
    return (*block.head, *bodies)


def _take_statement(reader, word):
    """The statement that the next line tells, without its bodies."""
    words = reader.begin(word)
    told = [_taken(words, form) for form in STATEMENTS[word] if form != "body"]
    words.finish()
    return (word, *told)


def _taken(words, form):
    if form == "name":
        return words.take_name()
    if form == "times":
        return words.take_number(1, MOST_REPEATS)
    signs = [words.take_number(0, MOST_SIGN)]
    while len(signs) < MOST_SIGNS and words.coming() is not None:
        signs.append(words.take_number(0, MOST_SIGN))
    return tuple(signs)
