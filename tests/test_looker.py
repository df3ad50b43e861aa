"""Points 6, 85, 87 and 88, and of the interface what it says of risemarks.looker."""

import itertools
import unittest

from odd_things import others
from risemarks.errors import BadMost, TooMany
from risemarks.looker import look
from risemarks.rules import RULES
from smallworlds import RULE_SETS, Beside, small_of, some_smalls, walked, without

WORDS = ("twice", "fallen", "astray", "below")


def states_of(layers):
    return [state for layer in layers for state, deed, place in layer]


class Testing(unittest.TestCase):
    def check_layers(self, small, layers):
        """Each layer has just the states that it should, each once, with a deed and a place that lead there."""
        self.assertEqual(layers[0], [(small.begin(), None, None)])
        seen = {small.begin()}
        for layer, behind in zip(layers, layers[1:]):
            expected = {small.after(state, deed) for state, came, place in layer for deed in small.deeds()}
            expected -= seen | {None}
            self.assertEqual({state for state, deed, place in behind}, expected)
            self.assertEqual(len(behind), len(expected))
            for state, deed, place in behind:
                self.assertIs(type(place), int)
                self.assertTrue(0 <= place < len(layer))
                self.assertIn(deed, small.deeds())
                self.assertEqual(small.after(layer[place][0], deed), state)
            self.assertGreater(len(behind), 0)
            seen |= expected
        return seen

    def words_in(self, small, layer):
        return {small.bad(state, deed) for state, came, place in layer for deed in small.deeds()} - {None}

    def check(self, small, told):
        self.assertIs(type(told), tuple)
        word, layers, deeds = told
        self.assertEqual([type(layer) for layer in layers], [list] * len(layers))
        seen = self.check_layers(small, layers)
        for layer in layers[:-1]:
            self.assertEqual(self.words_in(small, layer), set())
        words = self.words_in(small, layers[-1])
        if word == "never":
            self.assertEqual((words, deeds), (set(), []))
            behind = {small.after(state, deed) for state in seen for deed in small.deeds()}
            self.assertEqual(behind - seen, {None})
            return
        self.assertEqual(word, [one for one in WORDS if one in words][0])
        self.assertEqual(len(deeds), len(layers))
        state = small.begin()
        for deed, layer in zip(deeds, layers[1:]):
            self.assertIsNone(small.bad(state, deed))
            state = small.after(state, deed)
            self.assertIn(state, [other for other, came, place in layer])
        self.assertEqual(small.bad(state, deeds[-1]), word)
        hand = Beside(small)
        self.assertEqual([hand.do(deed) for deed in deeds], [None] * (len(deeds) - 1) + [word])


class Row:
    """Stands in for a small world: as many states, one behind another."""

    def __init__(self, count):
        self.count = count

    def deeds(self):
        return [("on",)]

    def begin(self):
        return 1

    def after(self, state, deed):
        return state + 1 if state < self.count else None

    def bad(self, state, deed):
        return None


class SixCases(Testing):
    def test_the_words_and_how_many_deeds(self):
        for left, word, count in [("ahead", "twice", 5), ("spoken", "below", 6), ("ends", "astray", 4),
                                  ("once", "astray", 5), ("apart", "never", 0), (None, "never", 0)]:
            small = small_of(rules=without(left))
            told = look(small)
            self.assertEqual((told[0], len(told[2])), (word, count), left)
            self.check(small, told)

    def test_no_shorter_row_of_deeds_is_bad(self):
        # By a walk through all rows of so many deeds, done by hands.
        small = small_of(rules=without("ends"))
        for length in range(1, 5):
            bad = set()
            for row in itertools.product(small.deeds(), repeat=length):
                hand = Beside(small)
                bad.update(hand.do(deed) for deed in row)
            self.assertEqual(bad - {None, "refused"}, {"astray"} if length == 4 else set())


class Layers(Testing):
    def test_small_worlds_by_any_rules(self):
        words = set()
        for small in some_smalls():
            try:
                told = look(small)
            except TooMany:
                words.add("TooMany")
                continue
            words.add(told[0])
            self.check(small, told)
        self.assertEqual(words, {"never", "twice", "astray", "below", "TooMany"})

    def test_by_every_set_of_rules(self):
        for count in range(6):
            for rules in itertools.combinations(RULES, count):
                small = small_of(rules=rules)
                told = look(small, 2000)
                self.check(small, told)
                expected = WORDS[:2] if "ahead" not in rules else ()
                expected += ("astray",) if "ends" not in rules or "once" not in rules else ()
                expected += ("below",) if "spoken" not in rules else ()
                self.assertIn(told[0], expected or ("never",))

    def test_what_never_comes(self):
        for small in some_smalls():
            rules = small.settings.rules
            try:
                word = look(small, 150)[0]
            except TooMany:
                continue
            if "ahead" in rules:
                self.assertNotIn(word, ("twice", "fallen"))
            if "spoken" in rules:
                self.assertNotEqual(word, "below")
            if "ends" in rules and "once" in rules:
                self.assertNotEqual(word, "astray")
            if rules == RULES:
                self.assertEqual(word, "never")

    def test_fallen_comes_beside_twice(self):
        small = small_of(rules=without("ahead"))
        told = look(small)
        self.assertEqual(self.words_in(small, told[1][-1]), {"twice", "fallen"})
        self.assertEqual(told[0], "twice")

    def test_the_first_of_the_four_words_in_a_layer(self):
        # In the last layer several words come, and the first of them need not come first there.
        several = 0
        for rules in itertools.combinations(RULES, 2):
            for far, room, area in itertools.product((0, 1, 2), (1, 2), [(0, 0, 2), (0, 0, 3), (0, 1, 2)]):
                small = small_of([area], 2, rules, far=far, room=room)
                told = look(small, 2000)
                words = self.words_in(small, told[1][-1])
                self.assertEqual(told[0], min(words, key=WORDS.index) if words else "never")
                several += len(words) > 1
        self.assertGreater(several, 5)

    def test_all_states_are_told(self):
        for small in (small_of(), small_of([(0, 0, 1)], 1), small_of([(0, 1, 2)], 1, far=0, counts=2)):
            told = look(small)
            self.assertEqual(told[0], "never")
            self.assertEqual(set(states_of(told[1])), set(walked(small, 10 ** 6)))


class Most(Testing):
    def test_as_many_states_as_there_are_and_one_less(self):
        for rules in RULE_SETS:
            small = small_of(rules=rules)
            told = look(small, 2000)
            count = len(states_of(told[1]))
            self.assertEqual(look(small, count)[:1], told[:1])
            self.check(small, look(small, count))
            self.assertEqual(look(small, count + 1)[0], told[0])
            with self.assertRaises(TooMany) as taken:
                look(small, count - 1)
            self.assertIs(type(taken.exception), TooMany)

    def test_one_state(self):
        with self.assertRaises(TooMany):
            look(small_of(), 1)

    def test_too_many_goes_ahead_of_what_is_asked_of_the_next_layer(self):
        small = small_of(rules=without("ends"))
        layers = look(small, 2000)[1]
        ahead = len(states_of(layers[:-1]))
        for most in range(ahead, ahead + len(layers[-1])):
            with self.assertRaises(TooMany):
                look(small, most)

    def test_four_hundred_unless_told(self):
        small = small_of([(0, 0, 3), (0, 1, 4)], 3)
        with self.assertRaises(TooMany):
            look(small)
        with self.assertRaises(TooMany):
            look(small, 400)
        for small in some_smalls():
            try:
                told = look(small, 400)
            except TooMany:
                with self.assertRaises(TooMany):
                    look(small)
                continue
            self.assertEqual(look(small), told)
            if len(states_of(told[1])) > 380:
                return

    def test_just_so_many_in_a_row(self):
        self.assertEqual(look(Row(400)), ("never", look(Row(400), 2000)[1], []))
        self.assertEqual(len(look(Row(400))[1]), 400)
        self.assertEqual(look(Row(1), 1), ("never", [[(1, None, None)]], []))
        self.assertEqual(len(look(Row(2000), 2000)[1]), 2000)
        for count, most in [(401, 400), (2001, 2000), (2, 1), (10, 9)]:
            with self.assertRaises(TooMany):
                look(Row(count), most)
        with self.assertRaises(TooMany):
            look(Row(401))

    def test_most_that_is_none(self):
        for small in (small_of(), small_of([(0, 0, 3), (0, 1, 4)], 4)):
            for most in others() + [0, -1, 2001, 10 ** 40, -10 ** 40, "", "400", "1"]:
                with self.assertRaises(BadMost) as taken:
                    look(small, most)
                self.assertIs(type(taken.exception), BadMost)

    def test_the_greatest_most(self):
        small = small_of()
        self.assertEqual(look(small, 2000), look(small, 1999))
        with self.assertRaises(TooMany):
            look(small_of([(0, 0, 4), (0, 2, 6)], 4, room=2, far=3), 2000)

    def test_arguments_by_name(self):
        small = small_of()
        self.assertEqual(look(most=400, small=small), look(small))


class NothingIsChanged(Testing):
    def test_what_was_told_may_be_changed(self):
        for rules in (None, without("ahead")):
            small = small_of(rules=rules)
            first = look(small)
            copy = (first[0], [list(layer) for layer in first[1]], list(first[2]))
            for layer in first[1]:
                layer.clear()
            first[1].clear()
            first[2].append(("fall",))
            self.assertEqual(look(small), copy)
            self.assertEqual(small.areas, [(0, 0, 2)])


if __name__ == "__main__":
    unittest.main()
