"""Which grants meet, and which grant holds a mark."""

from risemarks.areas import are_apart, has
from risemarks.errors import NoGrant, Overlap


def meeting(grants):
    for place, other in enumerate(grants):
        for one in grants[:place]:
            if not are_apart(one[2], other[2]):
                return (one[0], other[0])
    return None


def holder_of(shape, grants, mark):
    holders = [grant for grant in grants if has(shape, grant[2], mark)]
    if len(holders) == 0:
        raise NoGrant(mark)
    if len(holders) > 1:
        raise Overlap(holders[0][0], holders[1][0])
    return (holders[0][0], holders[0][1])
