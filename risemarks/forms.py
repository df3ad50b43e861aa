"""The forms that letters and deeds have: a word, and things of told kinds behind it."""

from risemarks.areas import end_of, first_of
from risemarks.shapes import is_name, is_number, is_whole_from


def is_stretch(thing):
    # A letter's area is not held against a shape, nor against the last moment.
    if not isinstance(thing, tuple) or len(thing) != 3:
        return False
    if not all([is_whole_from(part, 0) for part in thing]):
        return False
    return first_of(thing) < end_of(thing)


def is_of_kind(thing, kind):
    if kind == "name":
        return is_name(thing)
    if kind == "reading":
        return is_number(thing)
    if kind == "area":
        return is_stretch(thing)
    if kind == "number":
        return is_whole_from(thing, 1)
    return is_whole_from(thing, 0)


def are_of_kinds(things, kinds):
    if len(things) != len(kinds):
        return False
    return all([is_of_kind(thing, kind) for thing, kind in zip(things, kinds)])


def has_word(thing):
    # A first thing of another kind may call itself equal to a word.
    return isinstance(thing, tuple) and len(thing) > 0 and isinstance(thing[0], str)
