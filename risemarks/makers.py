"""Places, and marks made at them in areas."""

from risemarks.areas import end_of, first_of, slot_of
from risemarks.errors import NoRoom, Wait
from risemarks.shapes import mark_of


def bound_of(place):
    return place[0] if place[1] == 0 else place[0] + 1


def raised(place, bound):
    return max(place, (bound, 0))


def next_place(shape, place):
    if place[1] + 1 == shape.counts:
        return (place[0] + 1, 0)
    return (place[0], place[1] + 1)


def moment_at(area, place, reading):
    return max(place[0], reading, first_of(area))


def made(shape, far, area, place, reading):
    moment = moment_at(area, place, reading)
    if moment >= end_of(area):
        raise NoRoom("the area has no such moment left")
    if moment > reading + far:
        raise Wait(moment - far)
    count = place[1] if moment == place[0] else 0
    mark = mark_of(shape, moment, slot_of(area), count)
    return (mark, next_place(shape, (moment, count)))
