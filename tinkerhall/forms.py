"""The forms that all arguments are made of: bounded integers, and tuples or lists."""


def is_number(thing, low, high):
    # Python takes True and False for integers; the document does not.
    return isinstance(thing, int) and not isinstance(thing, bool) and low <= thing <= high


def is_list(thing):
    return isinstance(thing, (list, tuple))


def are_signs(thing, signs, many):
    return is_list(thing) and len(thing) == many and all([is_number(sign, 0, signs - 1) for sign in thing])


def are_different(things):
    return all([things[at] not in things[:at] for at in range(len(things))])


def is_count(thing):
    """Whether a thing is an integer from 0 on."""
    return isinstance(thing, int) and not isinstance(thing, bool) and thing >= 0


def as_tuples(thing):
    """A thing with tuples in the place of its lists, at any depth."""
    return tuple([as_tuples(part) for part in thing]) if is_list(thing) else thing
