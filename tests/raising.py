"""Tells the error that a call raises, in one line."""


def error_of(call, *things, **named):
    """The name of the error, and what it bears, in order; None if there is none."""
    try:
        call(*things, **named)
    except ValueError as error:
        return (error.__class__.__name__, *vars(error).values())
    return None
