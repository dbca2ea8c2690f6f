"""The forms that all arguments are made of: bounded integers, and tuples or lists."""


def is_number(thing, low, high):
    # Python takes True and False for integers; the document does not.
    return isinstance(thing, int) and not isinstance(thing, bool) and low <= thing <= high


def is_list(thing):
    return isinstance(thing, (list, tuple))


def are_signs(thing, signs, many):
    return is_list(thing) and len(thing) == many and all([is_number(sign, 0, signs - 1) for sign in thing])


def are_different(things):
    return all([things[at] not in things[:at] for at in range(len(things))])
