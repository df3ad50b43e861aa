"""Small worlds, and a hand that does their deeds beside them, for the tests of several modules."""

from risemarks.errors import RiseError
from risemarks.hands import Hand
from risemarks.notes import greatest_taken, read_note
from risemarks.rules import RULES, Settings
from risemarks.shapes import Shape, parts_of
from risemarks.smalls import Small

# All five, none, and each left out alone.
RULE_SETS = [RULES, ()] + [tuple(word for word in RULES if word != left) for left in RULES]
CALLS = {"back": "give_back"}


def small_of(areas=((0, 0, 2),), moments=2, rules=None, counts=1, slots=1, far=1, room=1, term=1):
    return Small(Settings(Shape(counts, slots), far, room, term, rules), list(areas), moments)


def without(word):
    return tuple(rule for rule in RULES if rule != word)


def some_smalls():
    """Of one and two areas, that meet or are apart, of one to four moments, by the sets of rules."""
    for rules in RULE_SETS:
        yield small_of(rules=rules)
        yield small_of([(0, 0, 1)], 1, rules, far=0)
        yield small_of([(0, 1, 3)], 3, rules, far=2)
        yield small_of([(0, 0, 4)], 4, rules, far=1, room=2)
        yield small_of([(1, 0, 2)], 2, rules, counts=2, slots=2)
        yield small_of([(0, 0, 2), (0, 1, 3)], 2, rules)
        yield small_of([(1, 0, 2), (0, 1, 3)], 2, rules, slots=2, counts=2)
        yield small_of([(0, 0, 1), (0, 1, 2)], 2, rules, far=2)
        yield small_of([(0, 0, 2), (0, 0, 2)], 1, rules, far=0, room=2)


class Beside:
    """A Hand that does deeds of a small world, and what is so whether or not it is written down."""

    def __init__(self, small, deeds=()):
        self.small = small
        self.hand = Hand("ann", small.settings)
        self.made, self.bound, self.given = set(), 0, [None] * len(small.areas)
        for deed in deeds:
            self.do(deed)

    def state(self):
        note = self.hand.note()
        return (self.hand.place(), read_note(note), greatest_taken(note), tuple(sorted(self.made)), self.bound,
                tuple(self.given))

    def do(self, deed):
        """The word for which the deed is bad, or None; "refused" where it is refused."""
        more = deed[1:] + (self.small.areas[deed[1] - 1],) if deed[0] == "take" else deed[1:]
        grant = read_note(self.hand.note())[0]
        try:
            told = getattr(self.hand, CALLS.get(deed[0], deed[0]))(*more)
        except RiseError:
            return "refused"
        word = self.word(grant, told) if deed[0] == "make" else None
        if deed[0] == "make":
            self.made.add(told)
        if deed[0] == "hear":
            self.bound = max(self.bound, deed[1])
        if deed[0] == "back":
            ends = [end for end in (self.given[grant - 1], told[1]) if end is not None]
            self.given[grant - 1] = min(ends)
        return word

    def word(self, grant, mark):
        moment = parts_of(self.small.settings.shape, mark)[0]
        end = self.given[grant - 1]
        dues = [("twice", mark in self.made), ("fallen", self.made and mark < max(self.made)),
                ("astray", end is not None and moment >= end), ("below", moment < self.bound)]
        return [word for word, due in dues if due][0] if any(due for word, due in dues) else None


def walked(small, most):
    """States that come from the beginning, as many at most, each with deeds that lead there; bad ones are not done."""
    ways = {small.begin(): ()}
    row = [small.begin()]
    for state in row:
        for deed in small.deeds():
            behind = small.after(state, deed)
            if behind is not None and small.bad(state, deed) is None and behind not in ways and len(row) < most:
                ways[behind] = ways[state] + (deed,)
                row.append(behind)
    return ways
