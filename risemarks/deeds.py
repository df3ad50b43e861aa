"""The deeds that are done in a world."""

from risemarks.forms import are_of_kinds, has_word

FORMS = {
    "ask": ("name",),
    "carry": ("number",),
    "write": ("name", "reading"),
    "make": ("name", "reading"),
    "news": ("name", "name"),
    "back": ("name",),
    "fall": ("name",),
    "rise": ("name",),
}


def is_deed(thing):
    if not has_word(thing) or thing[0] not in FORMS:
        return False
    return are_of_kinds(thing[1:], FORMS[thing[0]])


def names_of(deed):
    return [thing for thing in deed[1:] if isinstance(thing, str)]
