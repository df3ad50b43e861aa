"""Small worlds: one hand, all deeds that it may do, and what is bad among them."""

from risemarks.errors import RiseError
from risemarks.notes import NOTHING, greatest_taken, read_on
from risemarks.shapes import parts_of
from risemarks.steps import falling, giving, grant_in, hearing, making, rising, taking, writing


def with_lines(note, lines):
    for line in lines:
        note = read_on(note, line)
    return note


def with_mark(marks, mark):
    return tuple(sorted(set(marks + (mark,))))


def with_end(given, grant, end):
    old = given[grant - 1]
    least = end if old is None else min(old, end)
    return given[:grant - 1] + (least,) + given[grant:]


class Small:
    def __init__(self, settings, areas, moments):
        self.settings = settings
        self.areas = list(areas)
        self.moments = moments
        # Whoever reads the list may change it: the deeds go by what was handed in.
        self.ground = tuple(areas)

    def deeds(self):
        told = [("take", grant) for grant in range(1, len(self.ground) + 1)]
        told.extend([("write", reading) for reading in range(self.moments)])
        told.extend([("make", reading) for reading in range(self.moments)])
        told.extend([("hear", bound) for bound in range(1, self.moments + 1)])
        return told + [("back",), ("fall",), ("rise",)]

    def begin(self):
        return ((0, 0), NOTHING, 0, (), 0, (None,) * len(self.ground))

    def step(self, stand, deed):
        if deed[0] == "take":
            return taking(self.settings, stand, deed[1], self.ground[deed[1] - 1])
        if deed[0] == "write":
            return writing(self.settings, stand, deed[1])
        if deed[0] == "make":
            return making(self.settings, stand, deed[1])
        if deed[0] == "hear":
            return hearing(self.settings, stand, deed[1])
        if deed[0] == "back":
            return giving(self.settings, stand)
        return falling(stand) if deed[0] == "fall" else rising(stand)

    def step_or_none(self, state, deed):
        try:
            return self.step(state[:3], deed)
        except RiseError:
            return None

    def after(self, state, deed):
        step = self.step_or_none(state, deed)
        if step is None:
            return None
        note = with_lines(state[1], step[1])
        taken = max(state[2], greatest_taken(step[1]))
        made = with_mark(state[3], step[0]) if deed[0] == "make" else state[3]
        bound = max(state[4], deed[1]) if deed[0] == "hear" else state[4]
        given = with_end(state[5], step[0][0], step[0][1]) if deed[0] == "back" else state[5]
        behind = (step[2], note, taken, made, bound, given)
        return None if behind == state else behind

    def bad(self, state, deed):
        step = self.step_or_none(state, deed) if deed[0] == "make" else None
        if step is None:
            return None
        mark = step[0]
        moment = parts_of(self.settings.shape, mark)[0]
        end = state[5][grant_in(state[:3]) - 1]
        if mark in state[3]:
            return "twice"
        if any([mark < made for made in state[3]]):
            return "fallen"
        if end is not None and moment >= end:
            return "astray"
        return "below" if moment < state[4] else None
