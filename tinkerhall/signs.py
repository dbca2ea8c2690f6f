"""Signs, names and rows."""

from tinkerhall.forms import are_different, are_signs, is_list

WORDS = (
    "signs", "kind", "keeps", "table", "stands", "flees", "entry", "place", "from", "exit", "plan", "most",
    "come", "day", "build", "swap", "move", "back", "shelve", "scrap", "give", "take", "seen", "row", "sights",
    "told", "strike", "again", "test", "chapter", "look", "say", "if", "else", "end", "repeat", "leave", "call",
    "done", "quit", "any", "house", "customer",
)


def is_name(thing):
    """Whether a thing, whatever it is, is a name."""
    if not isinstance(thing, str) or not 1 <= len(thing) <= 8 or thing in WORDS:
        return False
    return all(["a" <= letter <= "z" for letter in thing])


def are_names(thing, fewest, most):
    """Whether a thing is a tuple of so many names; a name may stand there twice."""
    return is_list(thing) and fewest <= len(thing) <= most and all([is_name(name) for name in thing])


def are_different_names(thing, fewest, most):
    return are_names(thing, fewest, most) and are_different(thing)


def is_row(thing, signs, width, most=60):
    """Whether a thing, whatever it is, is a row of this width with at most so many steps."""
    if not is_list(thing) or not 1 <= len(thing) <= most:
        return False
    return all([are_signs(inputs, signs, width) for inputs in thing])


def write_steps(row):
    """The text of a row: its steps, separated by blanks."""
    return " ".join([write_digits(inputs) or "-" for inputs in row])


def write_digits(signs):
    return "".join([str(sign) for sign in signs])


def all_steps(signs, width):
    """All steps of this width, ascending."""
    steps = [()]
    for _ in range(width):
        steps = [(*begun, sign) for begun in steps for sign in range(signs)]
    return steps
