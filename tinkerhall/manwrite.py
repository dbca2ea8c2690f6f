"""The lines of a manual, written."""

from tinkerhall.signs import write_steps
from tinkerhall.statements import STATEMENTS, bodies_in


def write_manual(manual):
    """The lines of the manual."""
    lines = [f"test {name} {write_steps(row)}" for name, row in manual.tests]
    for name, body in manual.chapters:
        lines.append(f"chapter {name}")
        lines.extend(_body_lines(body))
        lines.append("end")
    return tuple(lines)


def _body_lines(body):
    lines = []
    # What is to be written next stands at the end: statements, and lines that close a body.
    waiting = list(body[::-1])
    while waiting:
        thing = waiting.pop()
        if isinstance(thing, str):
            lines.append(thing)
        else:
            lines.append(_first_line(thing))
            waiting.extend(_things_in(thing)[::-1])
    return lines


def _first_line(statement):
    words = [statement[0]]
    for part, form in zip(statement[1:], STATEMENTS[statement[0]]):
        if form == "signs":
            words.extend([str(sign) for sign in part])
        elif form != "body":
            words.append(str(part))
    return " ".join(words)


def _things_in(statement):
    """The statements in a statement, with the lines that close its bodies."""
    bodies = bodies_in(statement)
    if not bodies:
        return []
    things = list(bodies[0])
    for body in bodies[1:]:
        # An empty second body has no `else`.
        if body:
            things.extend(["else", *body])
    return [*things, "end"]
