"""What was made of the areas lent, what is left of them, and what was skipped."""

from risemarks.areas import has, rank_of, size_of


def marks_in(shape, area, marks):
    return [mark for mark in marks if has(shape, area, mark)]


def made_in(shape, grants, marks):
    told = []
    for grant, hand, area in grants:
        made = len(marks_in(shape, area, marks))
        told.append((grant, made, size_of(shape, area) - made))
    return told


def skipped(shape, area, marks):
    told = []
    behind = 0
    for rank in sorted([rank_of(shape, area, mark) for mark in marks_in(shape, area, marks)]):
        if behind < rank:
            told.append((behind, rank))
        behind = rank + 1
    return told


def holes(shape, area, marks):
    return sum([hi - lo for lo, hi in skipped(shape, area, marks)])
