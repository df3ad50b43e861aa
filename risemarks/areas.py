"""Areas: the marks of one slot, from a first moment on, ahead of an end."""

from risemarks.shapes import is_number, mark_of, parts_of


def slot_of(area):
    return area[0]


def first_of(area):
    return area[1]


def end_of(area):
    return area[2]


def ended_at(area, end):
    return (slot_of(area), first_of(area), end)


def is_area(shape, thing):
    if not isinstance(thing, tuple) or len(thing) != 3:
        return False
    if not all([is_number(part) for part in thing]):
        return False
    return slot_of(thing) < shape.slots and first_of(thing) < end_of(thing)


def size_of(shape, area):
    # A note may tell an area whose end was put ahead of its first: it has no marks, not fewer than none.
    return max(0, end_of(area) - first_of(area)) * shape.counts


def has(shape, area, mark):
    parts = parts_of(shape, mark)
    if parts[1] != slot_of(area):
        return False
    return first_of(area) <= parts[0] and parts[0] < end_of(area)


def nth(shape, area, rank):
    return mark_of(shape, first_of(area) + rank // shape.counts, slot_of(area), rank % shape.counts)


def rank_of(shape, area, mark):
    if not has(shape, area, mark):
        return None
    parts = parts_of(shape, mark)
    return (parts[0] - first_of(area)) * shape.counts + parts[2]


def are_apart(one, other):
    if slot_of(one) != slot_of(other):
        return True
    return max(first_of(one), first_of(other)) >= min(end_of(one), end_of(other))
