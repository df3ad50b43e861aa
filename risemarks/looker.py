"""The looker: it goes through a small world by layers, up to the first deed that is bad."""

from risemarks.errors import BadMost, TooMany
from risemarks.shapes import is_whole_from

WORDS = ("twice", "fallen", "astray", "below")
GREATEST_MOST = 2000


def is_most(thing):
    return is_whole_from(thing, 1) and thing <= GREATEST_MOST


def first_layer(small):
    return [(small.begin(), None, None)]


def first_bad(small, layer):
    found = []
    for place, entry in enumerate(layer):
        for deed in small.deeds():
            word = small.bad(entry[0], deed)
            if word is not None:
                found.append((word, place, deed))
    # The first of the four words goes, wherever in the layer it comes.
    return min(found, key=lambda bad: WORDS.index(bad[0]), default=None)


def next_layer(small, layer, seen):
    told = []
    for place, entry in enumerate(layer):
        for deed in small.deeds():
            state = small.after(entry[0], deed)
            if state is not None and state not in seen:
                seen[state] = True
                told.append((state, deed, place))
    return told


def deeds_to(layers, place):
    deeds = []
    for layer in reversed(layers[1:]):
        deeds.append(layer[place][1])
        place = layer[place][2]
    return list(reversed(deeds))


def look(small, most=400):
    if not is_most(most):
        raise BadMost("the most states are a whole number from 1 to 2000")
    layers = [first_layer(small)]
    seen = {small.begin(): True}
    bad = first_bad(small, layers[-1])
    while bad is None:
        layer = next_layer(small, layers[-1], seen)
        if len(layer) == 0:
            return ("never", layers, [])
        if len(seen) > most:
            raise TooMany("there are more states than may be")
        layers.append(layer)
        bad = first_bad(small, layer)
    return (bad[0], layers, deeds_to(layers, bad[1]) + [bad[2]])
