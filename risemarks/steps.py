"""What a hand does, told of where it stands: the tuple (place, what its note reads, the greatest grant taken).

Each step tells a tuple: the answer, the lines that come to the note, and the place behind it.
"""

from risemarks.areas import end_of, first_of
from risemarks.errors import Down, NoArea, NoNote, NoRoom, Up
from risemarks.makers import bound_of, made, moment_at, raised
from risemarks.rules import has_rule


def grant_in(stand):
    return stand[1][0]


def area_in(stand):
    return stand[1][1]


def held_in(stand):
    return stand[1][2]


def heard_in(stand):
    return stand[1][3]


def start_by(note):
    return (max(note[2], note[3]), 0)


def need_up(place):
    if place is None:
        raise Down("the hand is down")


def need_area(area):
    if area is None:
        raise NoArea("the hand has no area")


def falling(stand):
    need_up(stand[0])
    return (None, [], None)


def rising(stand):
    if stand[0] is not None:
        raise Up("the hand is up")
    return (None, [], start_by(stand[1]))


def taking(settings, stand, grant, area):
    place = stand[0]
    need_up(place)
    if has_rule(settings, "once") and grant <= stand[2]:
        return (False, [], place)
    # The new slot may be a lesser one: in it the rest of a moment that was begun would not rise.
    return (True, [("took", grant, area)], raised(place, bound_of(place)))


def mark_and_place(settings, stand, reading):
    need_up(stand[0])
    need_area(area_in(stand))
    return made(settings.shape, settings.far, area_in(stand), stand[0], reading)


def writing(settings, stand, reading):
    # What refuses the mark refuses to write for it.
    mark_and_place(settings, stand, reading)
    ahead = moment_at(area_in(stand), stand[0], reading) + settings.room
    if ahead > held_in(stand):
        return (ahead, [("held", ahead)], stand[0])
    return (held_in(stand), [], stand[0])


def making(settings, stand, reading):
    told = mark_and_place(settings, stand, reading)
    moment = moment_at(area_in(stand), stand[0], reading)
    if has_rule(settings, "ahead") and moment >= held_in(stand):
        raise NoNote(moment)
    return (told[0], [], told[1])


def hearing(settings, stand, bound):
    need_up(stand[0])
    is_written = has_rule(settings, "spoken") and bound > heard_in(stand)
    return (None, [("heard", bound)] if is_written else [], raised(stand[0], bound))


def giving(settings, stand):
    place = stand[0]
    need_up(place)
    need_area(area_in(stand))
    end = max(first_of(area_in(stand)), bound_of(place), held_in(stand))
    if end >= end_of(area_in(stand)):
        raise NoRoom("nothing is left to give back")
    told = (grant_in(stand), end)
    return (told, [("ends", grant_in(stand), end)] if has_rule(settings, "ends") else [], place)
