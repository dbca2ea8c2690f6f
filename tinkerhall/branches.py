"""Bodies of manuals that branch by the sign that was read."""


def branched(rows):
    """The body that goes on by the sign read last; `rows` has ascending signs, each with what comes then.

    The greatest sign has no `if` of its own.
    """
    body = rows[-1][1]
    for sign, first in rows[-2::-1]:
        body = (("if", (sign,), first, body),)
    return body
