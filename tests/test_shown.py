"""Points 86 and 87, and of the interface what it says of risemarks.shown."""

import itertools
import random
import unittest

from risemarks.errors import TooMany
from risemarks.looker import look
from risemarks.rules import RULES
from risemarks.shown import is_closed, is_row, is_told
from smallworlds import RULE_SETS, Beside, small_of, some_smalls, walked, without

WORDS = ("twice", "fallen", "astray", "below")
OTHERS = ["never", "", "Twice", "twice ", "none", "bad"]


def states_of(layers):
    return [state for layer in layers for state, deed, place in layer]


def some_tolds(most=40):
    """Small worlds with what looking tells of them, where they are not too great."""
    for small in some_smalls():
        try:
            yield small, look(small, most)
        except TooMany:
            pass


def put(things, place, thing):
    return things[:place] + [thing] + things[place + 1:]


class Closed(unittest.TestCase):
    def closed(self, small, states, is_so=True):
        self.assertIs(is_closed(small, states), is_so)

    def test_all_states_where_never_is_told(self):
        for small, (word, layers, deeds) in some_tolds(130):
            self.closed(small, states_of(layers), word == "never")

    def test_the_order_and_how_often_they_stand_are_free(self):
        small = small_of()
        states = states_of(look(small)[1])
        self.closed(small, states[::-1])
        self.closed(small, states + states)
        self.closed(small, states + states[:3])
        chance = random.Random(86)
        for again in range(5):
            chance.shuffle(states)
            self.closed(small, states)

    def test_a_state_left_out(self):
        for small in (small_of(), small_of([(0, 0, 1)], 1, without("apart"))):
            states = states_of(look(small)[1])
            for place in range(len(states)):
                self.closed(small, states[:place] + states[place + 1:], False)

    def test_nothing_and_the_beginning_alone(self):
        for rules in RULE_SETS:
            self.closed(small_of(rules=rules), [], False)
            self.closed(small_of(rules=rules), [small_of(rules=rules).begin()], False)

    def test_a_bad_deed_in_a_state_that_does_not_come(self):
        small = small_of()
        states = states_of(look(small)[1])
        # Its makes are bad by the marks that it tells; and all that is behind it is here, too.
        astray = ((0, 0), (1, (0, 0, 2), 2, 0), 1, (0, 1), 0, (None,))
        more = [astray]
        for state in more:
            more += [behind for behind in [small.after(state, deed) for deed in small.deeds()]
                     if behind is not None and behind not in more + states]
        self.closed(small, states + more, False)

    def test_more_states_that_are_closed_too(self):
        # A hand with nothing to take or make: down, and up.
        for grant in ((2, (0, 0, 0)), (1, (0, 2, 2))):
            small = small_of([(0, 0, 2), (0, 0, 2)], 2)
            states = list(walked(small, 10 ** 6))
            self.closed(small, states)
            up = ((2, 0), grant + (2, 2), 2, (0,), 2, (None, 0))
            down = (None,) + up[1:]
            self.closed(small, states + [up], False)
            self.closed(small, states + [down], False)
            self.closed(small, states + [up, down])
            self.closed(small, [up] + states + [down, up])

    def test_spoilt_states(self):
        small = small_of()
        states = states_of(look(small)[1])
        for place in range(0, len(states), 3):
            for spoilt in self.spoilt(states[place]):
                self.closed(small, put(states, place, spoilt), False)

    def spoilt(self, state):
        """States that are put otherwise in one number."""
        place, note, taken, made, bound, given = state
        yield (place, note, taken + 1, made, bound, given)
        yield (place, note, taken, made, bound + 1, given)
        yield (place, note, taken, made + (7,), bound, given)
        yield (place, note[:2] + (note[2] + 1, note[3]), taken, made, bound, given)
        yield (place, note[:3] + (note[3] + 1,), taken, made, bound, given)
        yield ((5, 0) if place is None else (place[0] + 1, place[1]), note, taken, made, bound, given)
        yield (place, note, taken, made, bound, (5,))

    def test_beside_the_points_words(self):
        for small, (word, layers, deeds) in some_tolds():
            chance = random.Random(860)
            every = states_of(layers)
            for again in range(6):
                states = chance.sample(every, chance.randrange(len(every) + 1)) if again else every
                expected = small.begin() in states
                for state, deed in itertools.product(states, small.deeds()):
                    behind = small.after(state, deed)
                    if small.bad(state, deed) or behind is not None and behind not in states:
                        expected = False
                self.closed(small, states, expected)


class Rows(unittest.TestCase):
    def row(self, small, word, deeds, is_so=True):
        self.assertIs(is_row(small, word, deeds), is_so, (word, deeds))

    def test_what_looking_tells(self):
        for small, (word, layers, deeds) in some_tolds(130):
            for other in WORDS + tuple(OTHERS):
                self.row(small, other, deeds, other == word != "never")

    def test_other_rows(self):
        small = small_of(rules=without("ahead"))
        twice = [("take", 1), ("make", 0), ("fall",), ("rise",), ("make", 0)]
        self.row(small, "twice", twice)
        self.row(small, "twice", [("hear", 1)] + twice[:1] + [("make", 1), ("fall",), ("rise",), ("make", 1)])
        self.row(small, "fallen", [("take", 1), ("make", 1), ("fall",), ("rise",), ("make", 0)])
        self.row(small, "twice", [("fall",), ("rise",)] * 3 + twice)
        self.row(small, "twice", [("take", 1), ("fall",), ("rise",), ("make", 0), ("fall",), ("rise",), ("make", 0)])

    def test_nearly_rows(self):
        small = small_of(rules=without("ahead"))
        twice = [("take", 1), ("make", 0), ("fall",), ("rise",), ("make", 0)]
        for deeds in [
            [], twice[:-1], twice[1:], twice[:1], [("make", 0)], twice[::-1], twice + [("fall",)],
            # A bad deed ahead, then another one.
            twice + [("fall",), ("rise",), ("make", 0)],
            # Deeds that are refused, or that change nothing.
            [("rise",)] + twice, [("make", 0)] + twice, twice[:1] + twice, twice[:3] + [("fall",)] + twice[3:],
            twice[:2] + [("hear", 1)] * 2 + twice[2:],
            twice[:4] + [("make", 1)], twice[:2] + twice[3:],
        ]:
            self.row(small, "twice", deeds, False)

    def test_deeds_of_other_small_worlds_are_no_rows(self):
        small = small_of([(0, 0, 9)], 2, without("ahead"), far=9)
        for reading, is_so in [(0, True), (1, True), (2, False), (5, False)]:
            self.row(small, "twice", [("take", 1), ("make", 0), ("fall",), ("rise",), ("make", 0)])
            again = [("take", 1), ("make", reading), ("fall",), ("rise",), ("make", reading)]
            self.row(small, "twice", again, is_so)
            self.row(small, "fallen", [("take", 1), ("make", reading), ("fall",), ("rise",), ("make", 0)], reading == 1)
        # The last one alone is of another small world.
        late = [("take", 1), ("make", 1), ("make", 1), ("fall",), ("rise",)]
        self.row(small, "fallen", late + [("make", 1)], False)
        self.row(small, "twice", late + [("make", 1)])
        self.row(small, "twice", late + [("make", 2)], False)
        for deed in [("take", 2), ("take", 0), None]:
            self.row(small, "twice", [deed] + again, False)
            self.row(small, "twice", [deed], False)

    def test_no_word(self):
        self.row(small_of(), None, [("fall",)], False)
        self.row(small_of(), None, [("take", 1), ("make", 0)], False)

    def test_deeds_left_out_and_put_otherwise(self):
        for left, word in [("ahead", "twice"), ("spoken", "below"), ("ends", "astray"), ("once", "astray")]:
            small = small_of(rules=without(left))
            deeds = look(small)[2]
            for place in range(len(deeds)):
                for row in [deeds[:place] + deeds[place + 1:]] + [put(deeds, place, deed) for deed in small.deeds()]:
                    self.row(small, word, row, self.by_hand(small, row) == word)

    def by_hand(self, small, deeds):
        """The word for which the last deed is bad where all others lead on, done by a hand; else None."""
        hand = Beside(small)
        for deed in deeds[:-1]:
            before = hand.state()
            if hand.do(deed) is not None or hand.state() == before:
                return None
        return hand.do(deeds[-1]) if deeds else None

    def test_beside_a_hand(self):
        found = 0
        for seed, small in enumerate(list(some_smalls())[::3]):
            chance = random.Random(seed)
            makes = [deed for deed in small.deeds() if deed[0] in ("make", "take", "rise", "fall", "write")]
            for again in range(150):
                deeds = [chance.choice(makes + small.deeds()) for k in range(chance.randrange(9))]
                word = self.by_hand(small, deeds)
                for other in WORDS + ("never",):
                    self.row(small, other, deeds, word == other)
                found += word in WORDS
            # Rows that lead on, each with any deed behind it.
            for state, way in list(walked(small, 60).items())[20:]:
                for deed in small.deeds():
                    word = self.by_hand(small, list(way) + [deed])
                    for other in WORDS:
                        self.row(small, other, list(way) + [deed], word == other)
                    found += word in WORDS
        self.assertGreater(found, 30)


class Told(unittest.TestCase):
    def told(self, small, told, is_so=True):
        self.assertIs(is_told(small, told), is_so)

    def spoil(self, small, word, layers, deeds):
        self.told(small, (word, layers, deeds), False)

    def test_what_looking_tells(self):
        for small, told in some_tolds(130):
            self.told(small, told)
        # However many states there are.
        small = small_of([(0, 0, 2), (0, 1, 3)], 2)
        told = look(small, 2000)
        self.assertGreater(len(states_of(told[1])), 400)
        self.told(small, told)

    def test_another_word(self):
        for small, (word, layers, deeds) in some_tolds():
            for other in WORDS + tuple(OTHERS):
                if other != word:
                    self.spoil(small, other, layers, deeds)
                    self.spoil(small, other, layers, [])

    def test_the_first_of_the_four_words_alone(self):
        small = small_of(rules=without("ahead"))
        word, layers, deeds = look(small)
        fallen = [("take", 1), ("make", 1), ("fall",), ("rise",), ("make", 0)]
        self.assertIs(is_row(small, "fallen", fallen), True)
        self.spoil(small, "fallen", layers, fallen)

    def test_other_right_deeds(self):
        small = small_of(rules=without("ahead"))
        word, layers, deeds = look(small)
        rows = [list(row) for row in itertools.product([("take", 1)], [("make", 0), ("make", 1)], [("fall",)],
                                                       [("rise",)], [("make", 0), ("make", 1)])]
        for row in rows:
            self.told(small, (word, layers, row), row[1] == row[4])

    def test_deeds_more_or_less_or_put_otherwise(self):
        for small, (word, layers, deeds) in some_tolds():
            for place in range(len(deeds)):
                self.spoil(small, word, layers, deeds[:place] + deeds[place + 1:])
                for deed in small.deeds():
                    self.spoil(small, word, layers, deeds[:place] + [deed] + deeds[place:])
                    other = put(deeds, place, deed)
                    self.told(small, (word, layers, other), is_row(small, word, other))
            self.spoil(small, word, layers, deeds + [("fall",)])
            self.spoil(small, word, layers, [("fall",), ("rise",)] + deeds)
            self.spoil(small, word, layers, deeds[::-1] or [("fall",)])

    def test_the_order_within_layers_is_free(self):
        for small, (word, layers, deeds) in some_tolds():
            chance = random.Random(86)
            orders = [list(range(len(layer))) for layer in layers]
            for order in orders:
                chance.shuffle(order)
            # Each place is told anew, by where the state that it speaks of stands now.
            turned = [layers[0]]
            for k in range(1, len(layers)):
                layer = [layers[k][place] for place in orders[k]]
                turned.append([(state, deed, orders[k - 1].index(place)) for state, deed, place in layer])
            self.told(small, (word, turned, deeds))

    def test_other_deeds_and_places_that_lead_there(self):
        for small, (word, layers, deeds) in some_tolds(130):
            layers = [list(layer) for layer in layers]
            for layer, behind in zip(layers, layers[1:]):
                ways = {}
                for place, deed in itertools.product(range(len(layer)), small.deeds()):
                    ways[small.after(layer[place][0], deed)] = (deed, place)
                for k, (state, deed, place) in enumerate(behind):
                    behind[k] = (state,) + ways[state]
            self.told(small, (word, layers, deeds))

    def test_a_layer_left_out_twice_empty_or_turned_about(self):
        for small, (word, layers, deeds) in some_tolds():
            self.spoil(small, word, [], deeds)
            self.spoil(small, word, [[]], deeds)
            self.spoil(small, word, layers[::-1], deeds)
            for k in range(len(layers)):
                self.spoil(small, word, layers[:k] + layers[k + 1:], deeds)
                self.spoil(small, word, layers[:k] + [[]] + layers[k:], deeds)
                self.spoil(small, word, layers[:k] + [layers[k]] + layers[k:], deeds)
                self.spoil(small, word, put(layers, k, []), deeds)
            self.spoil(small, word, layers + [[]], deeds)
            self.spoil(small, word, layers + [layers[0]], deeds)
            for k in range(len(layers) - 1):
                self.spoil(small, word, layers[:k] + [layers[k + 1], layers[k]] + layers[k + 2:], deeds)
                self.spoil(small, word, layers[:k + 1], deeds)
                self.spoil(small, word, layers[:k + 1], deeds[:k + 1])
                self.spoil(small, "never", layers[:k + 1], [])

    def test_a_layer_more(self):
        # Behind a layer with a bad deed there is none, whatever leads there.
        rows = 0
        for small, (word, layers, deeds) in some_tolds(130):
            if word == "never":
                continue
            seen, more = set(states_of(layers)), []
            for place, entry in enumerate(layers[-1]):
                for deed in small.deeds():
                    state = small.after(entry[0], deed)
                    if state is not None and state not in seen:
                        seen.add(state)
                        more.append((state, deed, place))
            for row in (deeds, deeds + [("fall",)], [("fall",)] + deeds):
                self.spoil(small, word, layers + [more], row)
            # One mark more than need be, then as told.
            row = deeds[:2] + [("make", 0)] + deeds[2:]
            if word == "twice" and is_row(small, word, row):
                self.assertIn(word, [small.bad(state, deed) for state, came, place in more for deed in small.deeds()])
                self.spoil(small, word, layers + [more], row)
                rows += 1
        self.assertGreater(rows, 0)

    def test_states_left_out_told_twice_or_put_otherwise(self):
        for small, (word, layers, deeds) in some_tolds():
            for k, layer in enumerate(layers):
                for place in range(0, len(layer), 4):
                    state, deed, came = layer[place]
                    others = [
                        layer[:place] + layer[place + 1:], layer + [layer[place]],
                        layer + [(small.begin(), None, None)],
                        put(layer, place, (state[:4] + (state[4] + 1,) + state[5:], deed, came)),
                        put(layer, place, (state[:2] + (state[2] + 1,) + state[3:], deed, came)),
                    ]
                    if place > 0:
                        others.append(put(layer, place, layer[0]))
                    for other in others:
                        self.spoil(small, word, put(layers, k, other), deeds)

    def test_places_and_deeds_that_do_not_lead_there(self):
        for small, (word, layers, deeds) in some_tolds():
            for k in range(1, len(layers)):
                count = len(layers[k - 1])
                for place in range(0, len(layers[k]), 5):
                    state, deed, came = layers[k][place]
                    entries = [(state, deed, other) for other in (-1, -count, count, count + 1, came - count, None)]
                    entries += [(state, None, came), (state, None, None), (state, ("take", 9), came)]
                    entries += [(state, other, came) for other in small.deeds()
                                if small.after(layers[k - 1][came][0], other) != state]
                    entries += [(state, deed, other) for other in range(count)
                                if small.after(layers[k - 1][other][0], deed) != state]
                    for entry in entries:
                        self.spoil(small, word, put(layers, k, put(layers[k], place, entry)), deeds)

    def test_the_first_layer_put_otherwise(self):
        small = small_of()
        word, layers, deeds = look(small)
        begin = small.begin()
        for layer in [[(begin, None, 0)], [(begin, ("rise",), None)], [(begin, ("rise",), 0)], [],
                      [(begin, None, None)] * 2, [(layers[1][0][0], None, None)],
                      [(((1, 0),) + begin[1:], None, None)]]:
            self.spoil(small, word, [layer] + layers[1:], deeds)

    def test_of_another_small_world(self):
        smalls = [small_of(rules=without(word)) for word in RULES if word != "apart"]
        for one, other in itertools.permutations(smalls, 2):
            self.told(one, look(other), False)
        self.told(small_of(), look(small_of(rules=without("apart"))))


class WhatFollows(unittest.TestCase):
    def test_whoever_has_a_closed_list_sees_that_nothing_is_bad(self):
        for small, (word, layers, deeds) in some_tolds(130):
            if is_closed(small, states_of(layers)):
                self.assertEqual(word, "never")
                self.assertFalse(any(small.bad(state, deed) for state in walked(small, 500) for deed in small.deeds()))
            else:
                self.assertIs(is_row(small, word, deeds), True)


class NothingIsChanged(unittest.TestCase):
    def test_what_is_handed_in_stays(self):
        for rules in (None, without("ahead")):
            small = small_of(rules=rules)
            told = look(small)
            states = states_of(told[1])
            copies = (told[0], [list(layer) for layer in told[1]], list(told[2])), list(states)
            for again in range(3):
                self.assertIs(is_told(small, told), True)
                self.assertIs(is_closed(small, states), rules is None)
                self.assertIs(is_row(small, told[0], told[2]), rules is not None)
            self.assertEqual((told, states), copies)

    def test_arguments_by_name(self):
        small = small_of(rules=without("ahead"))
        told = look(small)
        self.assertIs(is_told(told=told, small=small), True)
        self.assertIs(is_row(deeds=told[2], word="twice", small=small), True)
        self.assertIs(is_closed(states=[], small=small), False)


if __name__ == "__main__":
    unittest.main()
