"""A desk: it is told lines, and answers each with a text."""

from risemarks.codes import shown
from risemarks.errors import NoLine
from risemarks.gaps import made_in
from risemarks.holders import holder_of
from risemarks.knowing import chain
from risemarks.lines import read_told
from risemarks.looker import look
from risemarks.shapes import parts_of
from risemarks.smalls import Small
from risemarks.words import line_text, settings_of, things_text
from risemarks.world import World


def all_of(things):
    return things_text(things, " ") if len(things) > 0 else "none"


def deed_answer(deed, answer):
    if deed[0] == "make":
        return shown(answer)
    if answer is None:
        return "ok"
    if answer is True:
        return "yes"
    return "no" if answer is False else str(answer)


def marks_answer(world):
    return all_of([things_text((shown(mark), name), ":") for mark, name in world.marks()])


def chain_answer(world, one, other):
    places = chain(world.journal(), one, other)
    return all_of([] if places is None else places)


def left_answer(world):
    # In a world that is not sound a mark may be made twice.
    marks = sorted(set([mark for mark, name in world.marks()]))
    return all_of([things_text(told, ":") for told in made_in(world.settings.shape, world.grants(), marks)])


def note_answer(world, name):
    return all_of([line_text(line) for line in world.hand_at(name)[1]])


def place_answer(world, name):
    place = world.hand_at(name)[0]
    return "down" if place is None else all_of(place)


def look_answer(parts, moments, areas):
    told = look(Small(settings_of(parts), areas, moments))
    if told[0] == "never":
        return all_of(["never", sum([len(layer) for layer in told[1]])])
    return all_of([told[0]] + [things_text(deed, ":") for deed in told[2]])


def world_answer(world, told):
    if told[0] == "do":
        return deed_answer(told[1], world.do(told[1]))
    if told[0] == "marks":
        return marks_answer(world)
    if told[0] == "parts":
        return all_of(parts_of(world.settings.shape, told[1]))
    if told[0] == "who":
        return all_of(holder_of(world.settings.shape, world.grants(), told[1]))
    if told[0] == "chain":
        return chain_answer(world, told[1], told[2])
    if told[0] == "left":
        return left_answer(world)
    return note_answer(world, told[1]) if told[0] == "note" else place_answer(world, told[1])


class Desk:
    def __init__(self):
        self.world = None

    def say(self, line):
        told = read_told(line)
        if told[0] == "world":
            self.world = World(settings_of(told[1]), told[2])
            return "ok"
        if told[0] == "look":
            return look_answer(told[1], told[2], told[3])
        if self.world is None:
            raise NoLine("there is no world yet")
        return world_answer(self.world, told)
