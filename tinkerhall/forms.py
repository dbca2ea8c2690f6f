"""The forms that all arguments are made of: bounded integers, and tuples or lists."""


def is_number(thing, low, high):
    # Python takes True and False for integers; the document does not.
    return isinstance(thing, int) and not isinstance(thing, bool) and low <= thing <= high


def is_list(thing):
    return isinstance(thing, (list, tuple))


def are_signs(thing, signs, many):
    return is_list(thing) and len(thing) == many and all([is_number(sign, 0, signs - 1) for sign in thing])


def are_different(things):
    return all([things[at] not in things[:at] for at in range(len(things))])


def is_count(thing):
    """Whether a thing is an integer from 0 on."""
    return isinstance(thing, int) and not isinstance(thing, bool) and thing >= 0


def as_tuples(thing):
    """A thing with tuples in the place of its lists, at any depth."""
    if not is_list(thing):
        return thing
    # For each depth what is done so far; bodies of manuals can be too deep for calls in calls.
    done = {}
    done[0] = []
    done[1] = []
    sources = [thing]
    while sources:
        depth = len(sources)
        at = len(done[depth])
        if at == len(sources[-1]):
            done[depth - 1].append(tuple(done[depth]))
            sources.pop()
        elif is_list(sources[-1][at]):
            sources.append(sources[-1][at])
            done[depth + 1] = []
        else:
            done[depth].append(sources[-1][at])
    return done[0][0]
