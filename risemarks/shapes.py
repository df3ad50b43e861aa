"""Whole numbers, names, and the shapes by which marks are made and parted."""

from risemarks.errors import BadShape

# 10 ** 30, written out because a file's top holds plain values alone.
LAST = 1000000000000000000000000000000

LONGEST_NAME = 8
LETTERS = "abcdefghijklmnopqrstuvwxyz"
GREATEST_SIDE = 1000


def is_whole(thing):
    return isinstance(thing, int) and not isinstance(thing, bool)


def is_whole_from(thing, least):
    return is_whole(thing) and least <= thing


def is_number(thing):
    return is_whole_from(thing, 0) and thing <= LAST


def is_name(thing):
    if not isinstance(thing, str):
        return False
    if len(thing) < 1 or len(thing) > LONGEST_NAME:
        return False
    return all([sign in LETTERS for sign in thing])


def is_side(thing):
    return is_whole_from(thing, 1) and thing <= GREATEST_SIDE


class Shape:
    def __init__(self, counts, slots):
        if not is_side(counts) or not is_side(slots):
            raise BadShape("counts and slots are whole numbers from 1 to 1000")
        self.counts = counts
        self.slots = slots


def mark_of(shape, moment, slot, count):
    return (moment * shape.slots + slot) * shape.counts + count


def parts_of(shape, mark):
    count = mark % shape.counts
    rest = mark // shape.counts
    return (rest // shape.slots, rest % shape.slots, count)


def pair_of(shape):
    return (shape.counts, shape.slots)
