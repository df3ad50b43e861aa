"""The lender: it lends slots for stretches of moments, and lends anew what is given back."""

from risemarks.areas import end_of, ended_at, first_of, slot_of
from risemarks.errors import NoRoom
from risemarks.rules import has_rule
from risemarks.shapes import LAST


def free_moments(slots, grants):
    moments = [0] * slots
    for grant in grants:
        slot = slot_of(grant[2])
        moments[slot] = max(moments[slot], end_of(grant[2]))
    return moments


class Lender:
    def __init__(self, settings, grants=None):
        self.settings = settings
        self.lent = [] if grants is None else list(grants)

    def grants(self):
        return list(self.lent)

    def moments_free(self):
        return free_moments(self.settings.shape.slots, self.lent)

    def free_at(self, slot):
        return self.moments_free()[slot]

    def slot_and_first(self, least):
        if not has_rule(self.settings, "apart"):
            return (len(self.lent) % self.settings.shape.slots, least)
        firsts = [max(moment, least) for moment in self.moments_free()]
        first = min(firsts)
        return (firsts.index(first), first)

    def lend(self, hand, least):
        start = self.slot_and_first(least)
        end = start[1] + self.settings.term
        if end > LAST:
            raise NoRoom("the area would end above the last moment")
        grant = len(self.lent) + 1
        area = (start[0], start[1], end)
        self.lent.append((grant, hand, area))
        return (grant, area)

    def can_free(self, grant, end):
        if grant < 1 or grant > len(self.lent):
            return False
        area = self.lent[grant - 1][2]
        # Behind a later grant of the slot the moments given back may be another hand's.
        if any([slot_of(later[2]) == slot_of(area) for later in self.lent[grant:]]):
            return False
        if end_of(area) != self.free_at(slot_of(area)):
            return False
        return first_of(area) <= end and end < end_of(area)

    def free(self, grant, end):
        if not self.can_free(grant, end):
            return False
        kept = self.lent[grant - 1]
        self.lent[grant - 1] = (grant, kept[1], ended_at(kept[2], end))
        return True
