"""Hands: they make marks, write down what they must not forget, fall and rise."""

from risemarks.areas import end_of, first_of
from risemarks.errors import Down, NoArea, NoNote, NoRoom, Up
from risemarks.makers import bound_of, made, moment_at, raised
from risemarks.notes import area_of, grant_of, greatest_taken, heard_of, held_of
from risemarks.rules import has_rule


def start_of(lines):
    return (max(held_of(lines), heard_of(lines)), 0)


class Hand:
    def __init__(self, name, settings, lines=None):
        self.name = name
        self.settings = settings
        self.lines = [] if lines is None else list(lines)
        self.spot = start_of(self.lines)

    def is_up(self):
        return self.spot is not None

    def place(self):
        return self.spot

    def note(self):
        return list(self.lines)

    def area(self):
        return area_of(self.lines)

    def need_up(self):
        if not self.is_up():
            raise Down("the hand is down")

    def need_area(self):
        if self.area() is None:
            raise NoArea("the hand has no area")

    def fall(self):
        self.need_up()
        self.spot = None

    def rise(self):
        if self.is_up():
            raise Up("the hand is up")
        self.spot = start_of(self.lines)

    def take(self, grant, area):
        self.need_up()
        if has_rule(self.settings, "once") and grant <= greatest_taken(self.lines):
            return False
        self.lines.append(("took", grant, area))
        # The new slot may be a lesser one: in it the rest of a moment that was begun would not rise.
        self.spot = raised(self.spot, bound_of(self.spot))
        return True

    def mark_and_place(self, reading):
        self.need_up()
        self.need_area()
        return made(self.settings.shape, self.settings.far, self.area(), self.spot, reading)

    def write(self, reading):
        # What refuses the mark refuses to write for it.
        self.mark_and_place(reading)
        ahead = moment_at(self.area(), self.spot, reading) + self.settings.room
        if ahead > held_of(self.lines):
            self.lines.append(("held", ahead))
        return held_of(self.lines)

    def make(self, reading):
        told = self.mark_and_place(reading)
        moment = moment_at(self.area(), self.spot, reading)
        if has_rule(self.settings, "ahead") and moment >= held_of(self.lines):
            raise NoNote(moment)
        self.spot = told[1]
        return told[0]

    def hear(self, bound):
        self.need_up()
        if has_rule(self.settings, "spoken") and bound > heard_of(self.lines):
            self.lines.append(("heard", bound))
        self.spot = raised(self.spot, bound)

    def tell(self):
        self.need_up()
        return bound_of(self.spot)

    def give_back(self):
        self.need_up()
        self.need_area()
        end = max(first_of(self.area()), bound_of(self.spot), held_of(self.lines))
        if end >= end_of(self.area()):
            raise NoRoom("nothing is left to give back")
        grant = grant_of(self.lines)
        if has_rule(self.settings, "ends"):
            self.lines.append(("ends", grant, end))
        return (grant, end)
