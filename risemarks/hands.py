"""Hands: they make marks, write down what they must not forget, fall and rise."""

from risemarks.makers import bound_of
from risemarks.notes import area_of, greatest_taken, read_note
from risemarks.steps import falling, giving, hearing, making, need_up, rising, start_by, taking, writing


class Hand:
    def __init__(self, name, settings, lines=None):
        self.name = name
        self.settings = settings
        self.lines = [] if lines is None else list(lines)
        self.spot = start_by(read_note(self.lines))

    def is_up(self):
        return self.spot is not None

    def place(self):
        return self.spot

    def note(self):
        return list(self.lines)

    def area(self):
        return area_of(self.lines)

    def stand(self):
        return (self.spot, read_note(self.lines), greatest_taken(self.lines))

    def go(self, step):
        self.lines.extend(step[1])
        self.spot = step[2]
        return step[0]

    def fall(self):
        return self.go(falling(self.stand()))

    def rise(self):
        return self.go(rising(self.stand()))

    def take(self, grant, area):
        return self.go(taking(self.settings, self.stand(), grant, area))

    def write(self, reading):
        return self.go(writing(self.settings, self.stand(), reading))

    def make(self, reading):
        return self.go(making(self.settings, self.stand(), reading))

    def hear(self, bound):
        return self.go(hearing(self.settings, self.stand(), bound))

    def tell(self):
        need_up(self.spot)
        return bound_of(self.spot)

    def give_back(self):
        return self.go(giving(self.settings, self.stand()))
