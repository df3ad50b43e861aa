"""The five rules, and the settings by which hands and lenders go."""

from risemarks.errors import BadSettings
from risemarks.shapes import is_whole_from

RULES = ("ahead", "apart", "ends", "once", "spoken")

# 10 ** 12, written out because a file's top holds plain values alone.
GREATEST_SPAN = 1000000000000


def is_span(thing, least):
    return is_whole_from(thing, least) and thing <= GREATEST_SPAN


def is_rule(thing):
    # A thing of another kind may call itself equal to a text.
    return isinstance(thing, str) and thing in RULES


def are_rules(thing):
    if thing is None:
        return True
    if not isinstance(thing, (list, tuple)):
        return False
    if not all([is_rule(word) for word in thing]):
        return False
    return len(set(thing)) == len(thing)


class Settings:
    def __init__(self, shape, far, room, term, rules=None):
        if not is_span(far, 0):
            raise BadSettings("far")
        if not is_span(room, 1):
            raise BadSettings("room")
        if not is_span(term, 1):
            raise BadSettings("term")
        if not are_rules(rules):
            raise BadSettings("rules")
        self.shape = shape
        self.far = far
        self.room = room
        self.term = term
        self.rules = RULES if rules is None else tuple(sorted(rules))


def has_rule(settings, word):
    return word in settings.rules
