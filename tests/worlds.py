"""Worlds and deeds by fixed rows of chances, and what a world tells, for the tests of several modules."""

import random

from risemarks.errors import NoHand, NoLetter, NoNote, RiseError, Wait
from risemarks.notes import greatest_taken, read_note
from risemarks.rules import RULES, Settings
from risemarks.shapes import Shape
from risemarks.world import World

# All five, none, and each left out alone.
RULE_SETS = [RULES, ()] + [tuple(word for word in RULES if word != left) for left in RULES]
NAMES = ["ann", "bob", "cid", "dan", "eve", "fay"]
FIELDS = {Wait: "reading", NoNote: "moment", NoLetter: "number", NoHand: "name"}


def answer(ask):
    """What is told, or the refusal's class and its field."""
    try:
        return ("told", ask())
    except RiseError as refusal:
        field = FIELDS.get(type(refusal))
        return (type(refusal).__name__, getattr(refusal, field) if field else None)


def told_by(world):
    """All that a world tells."""
    hands = [world.hand_at(name) for name in world.names]
    return (world.marks(), world.journal(), world.grants(), world.letters(), hands)


def some_settings(chance, rules=None):
    shape = Shape(chance.choice([1, 2, 3]), chance.choice([1, 2, 3, 5]))
    return Settings(shape, chance.choice([0, 3, 10, 50]), chance.choice([1, 3, 8]), chance.choice([2, 8, 25]), rules)


class Draw:
    """Deeds, one behind another: clocks stand, jump and go back, and letters are read late, never and often."""

    KINDS = (["make"] * 8 + ["write"] * 4 + ["carry"] * 9 + ["ask"] * 1 + ["news"] * 4 + ["back"] * 2 + ["fall"] * 2
             + ["rise"] * 2)

    def __init__(self, chance, names, start=0):
        self.chance = chance
        self.names = names
        self.clock = start

    def deed(self, world):
        name = self.chance.choice(self.names)
        if name in world.names and self.chance.randrange(5) < 2:
            return self.next_deed(world, name)
        kind = self.chance.choice(self.KINDS)
        if kind == "carry":
            return (kind, self.number(len(world.letters())))
        if kind in ("make", "write"):
            return (kind, name, self.reading())
        if kind == "news":
            return (kind, name, self.chance.choice(self.names))
        return (kind, name)

    def reading(self):
        self.clock = max(0, self.clock + self.chance.choice([-1, 0, 0, 0, 0, 0, 1, 1]))
        return max(0, self.clock + self.chance.choice([-9, -2, 0, 0, 0, 0, 1, 2, 6]))

    def number(self, sent):
        """Mostly the number of a late letter, but of any one, too."""
        late = max(1, sent - self.chance.randrange(3))
        return self.chance.choice([late, late, late, self.chance.randrange(1, sent + 2)])

    def next_deed(self, world, name):
        """What brings a hand on to its next mark, as far as it can be seen."""
        place, note = world.hand_at(name)
        if place is None:
            return ("rise", name)
        area, held = read_note(note)[1:3]
        own = [(number, letter) for number, letter in enumerate(world.letters(), start=1) if letter[1] == name]
        grants = [number for number, letter in own if letter[0] == "grant" and letter[2] > greatest_taken(note)]
        if grants:
            return ("carry", grants[-1])
        if area is None or max(place[0], self.clock) >= area[2]:
            asks = [number for number, letter in own if letter[0] in ("ask", "grant")]
            return ("carry", asks[-1]) if asks and own[-1][1][0] == "ask" else ("ask", name)
        moment = max(place[0], area[1], self.clock)
        self.clock = max(self.clock, moment - self.chance.randrange(world.settings.far + 1))
        return ("make" if moment < held else "write", name, self.clock)


def some_worlds(seed, rule_sets, count):
    """As many fresh worlds of each set of rules, each with a drawer of deeds."""
    for again in range(count):
        for place, rules in enumerate(rule_sets):
            chance = random.Random(seed * 10000 + again * 100 + place)
            names = NAMES[:chance.randrange(1, 7)]
            yield World(some_settings(chance, rules), names), Draw(chance, names)
