"""Whether what the looker tells is right: seen without a search."""

from risemarks.looker import first_bad, first_layer, next_layer
from risemarks.shapes import is_whole_from


def is_closed(small, states):
    known = {}
    for state in states:
        known[state] = True
    if small.begin() not in known:
        return False
    for state in known:
        for deed in small.deeds():
            behind = small.after(state, deed)
            if small.bad(state, deed) is not None or (behind is not None and behind not in known):
                return False
    return True


def is_bad_for(small, state, deed, word):
    return deed in small.deeds() and small.bad(state, deed) is not None and small.bad(state, deed) == word


def state_behind(small, state, deed):
    if deed not in small.deeds() or small.bad(state, deed) is not None:
        return None
    return small.after(state, deed)


def is_row(small, word, deeds):
    if len(deeds) == 0:
        return False
    state = small.begin()
    for deed in deeds[:-1]:
        state = state_behind(small, state, deed)
        if state is None:
            return False
    return is_bad_for(small, state, deeds[-1], word)


def is_led_to(small, layer, state, deed, place):
    if not is_whole_from(place, 0) or place >= len(layer) or deed not in small.deeds():
        return False
    return small.after(layer[place][0], deed) == state


def is_next_layer(small, layer, behind, seen):
    missing = {}
    for entry in next_layer(small, layer, seen):
        missing[entry[0]] = True
    if len(missing) == 0:
        return False
    for state, deed, place in behind:
        if state not in missing or not is_led_to(small, layer, state, deed, place):
            return False
        missing.pop(state)
    return len(missing) == 0


def is_end(small, told, seen):
    layers = told[1]
    bad = first_bad(small, layers[-1])
    if bad is None:
        return told[0] == "never" and told[2] == [] and next_layer(small, layers[-1], seen) == []
    # A row of this length comes by all layers: from an earlier one nothing is bad.
    return told[0] == bad[0] and len(told[2]) == len(layers) and is_row(small, told[0], told[2])


def is_told(small, told):
    layers = told[1]
    if len(layers) == 0 or layers[0] != first_layer(small):
        return False
    seen = {small.begin(): True}
    for layer, behind in zip(layers, layers[1:]):
        if first_bad(small, layer) is not None or not is_next_layer(small, layer, behind, seen):
            return False
    return is_end(small, told, seen)
