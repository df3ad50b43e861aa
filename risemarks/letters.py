"""Letters between hands and the lender."""

from risemarks.forms import are_of_kinds, has_word

FORMS = {
    "ask": ("name", "moment"),
    "grant": ("name", "number", "area"),
    "back": ("name", "number", "moment"),
    "news": ("name", "name", "moment"),
}


def is_letter(thing):
    if not has_word(thing) or thing[0] not in FORMS:
        return False
    return are_of_kinds(thing[1:], FORMS[thing[0]])


def for_whom(letter):
    if letter[0] == "grant":
        return letter[1]
    if letter[0] == "news":
        return letter[2]
    return ""
