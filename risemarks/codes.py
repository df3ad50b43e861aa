"""Marks as texts that are ordered as the marks are."""

from risemarks.errors import NoCode

SIGNS = "0123456789abcdefghjkmnpqrstvwxyz"
BASE = 32


def digits_of(mark):
    digits = SIGNS[mark % BASE]
    rest = mark // BASE
    while rest > 0:
        digits = SIGNS[rest % BASE] + digits
        rest = rest // BASE
    return digits


def shown(mark):
    digits = digits_of(mark)
    # The length goes first, so that a shorter text is a lesser one.
    return SIGNS[len(digits)] + digits


def is_code(thing):
    if not isinstance(thing, str):
        return False
    # No sign tells a length of BASE or more.
    if len(thing) < 2 or len(thing) > BASE:
        return False
    if not all([sign in SIGNS for sign in thing]):
        return False
    if SIGNS.index(thing[0]) != len(thing) - 1:
        return False
    return thing[1] != "0" or len(thing) == 2


def read(word):
    if not is_code(word):
        raise NoCode("no mark is shown so")
    mark = 0
    for sign in word[1:]:
        mark = mark * BASE + SIGNS.index(sign)
    return mark
