"""The forms of the entries of a book, each in itself."""

from tinkerhall.forms import is_count, is_list, is_number
from tinkerhall.signs import is_name

MOST_BUILT = 6
MOST_TOLD = 10

# For each word what stands behind it.
FORMS = {
    "come": ("name", "name"),
    "day": (),
    "build": ("name", "name", "parts"),
    "swap": ("name", "name", "number"),
    "back": ("name", "name"),
    "move": ("name", "name", "name", "name"),
    "shelve": ("number",),
    "scrap": ("number",),
    "give": ("name",),
    "take": ("name",),
    "seen": ("number", "name", "row", "sights"),
    "told": ("number", "name", "bound", "bound"),
    "strike": ("number",),
    "again": ("number",),
}


def is_entry(thing):
    """Whether a thing has the form of an entry, in itself."""
    if not is_list(thing) or len(thing) == 0 or not isinstance(thing[0], str) or thing[0] not in FORMS:
        return False
    forms = FORMS[thing[0]]
    if len(thing) != len(forms) + 1 or not all([_has_form(part, form) for part, form in zip(thing[1:], forms)]):
        return False
    return thing[0] != "told" or thing[3] <= thing[4]


def _has_form(thing, form):
    if form == "name":
        return is_name(thing)
    if form == "number":
        return is_count(thing)
    if form == "bound":
        return is_number(thing, 0, MOST_TOLD)
    if form == "parts":
        return is_list(thing) and len(thing) <= MOST_BUILT and all([is_count(part) for part in thing])
    # Whether they are a row and sights hangs on the plan of the machine.
    return is_list(thing)
