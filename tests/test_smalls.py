"""Points 81 to 84, point 2 as far as small worlds go, and of the interface what it says of risemarks.smalls."""

import itertools
import unittest

from risemarks.rules import RULES
from risemarks.smalls import Small
from smallworlds import RULE_SETS, Beside, small_of, some_smalls, walked, without

BEGIN = ((0, 0), (0, None, 0, 0), 0, (), 0, (None,))
AREA = (0, 0, 4)


def state_of(place=(0, 0), grant=1, area=AREA, held=9, heard=0, taken=1, made=(), bound=0, given=(None,)):
    return (place, (grant, area, held, heard), taken, made, bound, given)


def four(rules=None, **others):
    return small_of([AREA], 4, rules, **{"far": 4, "room": 2, **others})


class Deeds(unittest.TestCase):
    def test_their_order(self):
        self.assertEqual(small_of().deeds(), [
            ("take", 1), ("write", 0), ("write", 1), ("make", 0), ("make", 1), ("hear", 1), ("hear", 2),
            ("back",), ("fall",), ("rise",)])
        self.assertEqual(small_of([(0, 0, 1)], 1).deeds(), [
            ("take", 1), ("write", 0), ("make", 0), ("hear", 1), ("back",), ("fall",), ("rise",)])
        self.assertEqual(small_of([(0, 5, 9), (0, 0, 2)], 3).deeds(), [
            ("take", 1), ("take", 2), ("write", 0), ("write", 1), ("write", 2), ("make", 0), ("make", 1), ("make", 2),
            ("hear", 1), ("hear", 2), ("hear", 3), ("back",), ("fall",), ("rise",)])

    def test_how_many(self):
        for areas, moments in itertools.product([[AREA], [AREA, AREA]], range(1, 5)):
            for rules in RULE_SETS:
                self.assertEqual(len(small_of(areas, moments, rules).deeds()), len(areas) + 3 * moments + 3)


class Begin(unittest.TestCase):
    def test_the_beginning(self):
        for rules in RULE_SETS:
            self.assertEqual(small_of(rules=rules).begin(), BEGIN)
            self.assertEqual(small_of([AREA, AREA], 4, rules).begin(), BEGIN[:5] + ((None, None),))

    def test_fields(self):
        settings = small_of().settings
        small = Small(moments=3, areas=[AREA], settings=settings)
        self.assertIs(small.settings, settings)
        self.assertEqual((small.areas, small.moments), ([AREA], 3))


class After(unittest.TestCase):
    def goes(self, small, state, deed, **others):
        """The deed leads to the state with these things put otherwise."""
        expected = list(state)
        for name, value in others.items():
            if name in ("grant", "area", "held", "heard"):
                note = list(expected[1])
                note[("grant", "area", "held", "heard").index(name)] = value
                expected[1] = tuple(note)
            else:
                expected[("place", "note", "taken", "made", "bound", "given").index(name)] = value
        told = small.after(state, deed)
        self.assertEqual(told, tuple(expected))
        self.assertEqual([type(part) for part in told[1:]], [tuple, int, tuple, int, tuple])

    def stays(self, small, state, *deeds):
        for deed in deeds:
            self.assertIsNone(small.after(state, deed), deed)
            self.assertIsNone(small.bad(state, deed), deed)

    def test_take(self):
        for rules in RULE_SETS:
            small = small_of([AREA, (0, 1, 3)], 2, rules, counts=2)
            self.goes(small, small.begin(), ("take", 1), grant=1, area=AREA, taken=1)
            self.goes(small, small.begin(), ("take", 2), grant=2, area=(0, 1, 3), taken=2)
            # A moment that was begun is left.
            state = state_of((2, 1), given=(None, None))
            self.goes(small, state, ("take", 2), place=(3, 0), grant=2, area=(0, 1, 3), taken=2)

    def test_take_again(self):
        for rules in RULE_SETS:
            small = small_of([AREA, (0, 1, 3)], 2, rules)
            state = state_of(grant=2, area=(0, 1, 2), taken=2, given=(None, 2))
            if "once" in rules:
                self.stays(small, state, ("take", 1), ("take", 2))
            else:
                self.goes(small, state, ("take", 1), grant=1, area=AREA)
                self.goes(small, state, ("take", 2), area=(0, 1, 3))

    def test_write(self):
        for rules in RULE_SETS:
            small = four(rules)
            state = state_of((1, 0), held=0)
            self.goes(small, state, ("write", 0), held=3)
            self.goes(small, state, ("write", 3), held=5)
            self.goes(small, state_of((1, 0), held=2), ("write", 1), held=3)
            self.stays(small, state_of((1, 0), held=3), ("write", 1))
            self.stays(small, state_of((1, 0), held=4), ("write", 0), ("write", 1), ("write", 2))

    def test_make(self):
        for rules in RULE_SETS:
            small = four(rules, counts=2)
            self.goes(small, state_of(), ("make", 0), place=(0, 1), made=(0,))
            self.goes(small, state_of((1, 1), made=(2,)), ("make", 1), place=(2, 0), made=(2, 3))
            self.goes(small, state_of((1, 1), made=(1,)), ("make", 3), place=(3, 1), made=(1, 6))

    def test_a_mark_between_those_made_stands_in_its_order_and_once(self):
        small = four(())
        self.assertEqual(small.after(state_of((1, 0), made=(0, 3)), ("make", 1))[3], (0, 1, 3))
        self.assertEqual(small.after(state_of((1, 0), made=(0, 1, 3)), ("make", 1))[3], (0, 1, 3))

    def test_hear(self):
        for rules in RULE_SETS:
            small = four(rules)
            state = state_of((1, 0))
            heard = {"heard": 3} if "spoken" in rules else {}
            self.goes(small, state, ("hear", 3), place=(3, 0), bound=3, **heard)
            heard = {"heard": 1} if "spoken" in rules else {}
            self.goes(small, state, ("hear", 1), bound=1, **heard)
            self.stays(small, state_of((3, 0), heard=3, bound=3), ("hear", 1), ("hear", 2), ("hear", 3))
            # What was heard stays told, also where the hand forgot it.
            self.goes(small, state_of((0, 0), heard=4, bound=4), ("hear", 2), place=(2, 0))

    def test_back(self):
        for rules in RULE_SETS:
            small = four(rules)
            area = {"area": (0, 0, 2)} if "ends" in rules else {}
            self.goes(small, state_of((1, 0), held=2), ("back",), given=(2,), **area)
            area = {"area": (0, 0, 0)} if "ends" in rules else {}
            self.goes(small, state_of(held=0), ("back",), given=(0,), **area)
            self.stays(small, state_of((4, 0), held=0), ("back",))
            self.stays(small, state_of(held=4), ("back",))
            self.stays(small, small.begin(), ("back",))

    def test_the_least_end_that_was_given_back(self):
        for rules in RULE_SETS:
            small = small_of([AREA, (0, 0, 9)], 4, rules)
            for old, new in [(None, 3), (1, 1), (2, 2), (3, 3), (4, 3)]:
                state = state_of((3, 0), held=0, grant=2, area=(0, 0, 9), taken=2, given=(7, old))
                if "ends" in rules:
                    self.goes(small, state, ("back",), area=(0, 0, 3), given=(7, new))
                elif old == new:
                    self.stays(small, state, ("back",))
                else:
                    self.goes(small, state, ("back",), given=(7, new))

    def test_fall_and_rise(self):
        for rules in RULE_SETS:
            small = four(rules)
            state = state_of((1, 0), held=2, heard=3, made=(0,), bound=3, given=(4,))
            self.goes(small, state, ("fall",), place=None)
            self.stays(small, state, ("rise",))
            down = (None,) + state[1:]
            self.goes(small, down, ("rise",), place=(3, 0))
            self.stays(small, down, ("fall",), ("take", 1), ("write", 0), ("make", 0), ("hear", 4), ("back",))
            self.goes(small, (None,) + small.begin()[1:], ("rise",), place=(0, 0))

    def test_refused_deeds(self):
        for rules in RULE_SETS:
            small = four(rules, far=1)
            self.stays(small, small.begin(), ("write", 0), ("make", 0), ("back",), ("rise",))
            self.stays(small, state_of((2, 0)), ("write", 0), ("make", 0))
            self.stays(small, state_of((4, 0)), ("write", 3), ("make", 3))
            self.stays(small, state_of(area=(0, 0, 2)), ("make", 2), ("write", 2))
            if "ahead" in rules:
                self.stays(small, state_of((2, 0), held=2), ("make", 2), ("make", 1))
                self.stays(small, state_of(held=0), ("make", 0))

    def test_what_a_deed_is_not_told_to_change_stays(self):
        # Also where no note reads so: the greatest grant taken is less than the one that the hand has.
        for rules in RULE_SETS:
            small = small_of([AREA, (0, 1, 3)], 4, rules, room=2)
            state = state_of((1, 0), grant=2, area=(0, 0, 3), held=2, taken=0, given=(None, None))
            self.goes(small, state, ("write", 1), held=3)
            self.goes(small, state, ("fall",), place=None)
            self.goes(small, state, ("make", 1), place=(2, 0), made=(1,))
            self.goes(small, state, ("take", 1), grant=1, area=AREA, taken=1)


class Bad(unittest.TestCase):
    def bad(self, word, small, state, *deeds):
        for deed in deeds or [("make", 1)]:
            self.assertEqual(small.bad(state, deed), word)

    def test_twice(self):
        for rules in RULE_SETS:
            self.bad("twice", four(rules), state_of((1, 0), made=(1,)))
            self.bad("twice", four(rules), state_of((1, 0), made=(0, 1, 2)))
            self.bad(None, four(rules), state_of((1, 0), made=(0,)))
            self.bad("twice", four(rules, counts=2), state_of((1, 1), made=(3,)))
            self.bad(None, four(rules, counts=2), state_of((1, 1), made=(2,)))

    def test_fallen(self):
        for rules in RULE_SETS:
            self.bad("fallen", four(rules), state_of((1, 0), made=(2,)))
            self.bad("fallen", four(rules), state_of((1, 0), made=(0, 3)))
            self.bad("fallen", four(rules, counts=2), state_of((1, 0), made=(3,)))
            self.bad(None, four(rules, counts=2), state_of((1, 0), made=(0, 1)))

    def test_astray(self):
        for rules in RULE_SETS:
            for end, word in [(0, "astray"), (1, "astray"), (2, None), (4, None), (None, None)]:
                self.bad(word, four(rules), state_of((1, 0), given=(end,)))

    def test_astray_is_by_the_grant_that_the_hand_has(self):
        for rules in RULE_SETS:
            small = small_of([AREA, AREA], 2, rules)
            self.bad("astray", small, state_of(given=(1, None)))
            self.bad(None, small, state_of(given=(None, 1)))
            self.bad("astray", small, state_of(grant=2, taken=2, given=(None, 1)))
            self.bad(None, small, state_of(grant=2, taken=2, given=(0, 2)))

    def test_below(self):
        for rules in RULE_SETS:
            for bound, word in [(0, None), (1, None), (2, "below"), (9, "below")]:
                self.bad(word, four(rules), state_of((1, 0), bound=bound))

    def test_the_first_that_is_due(self):
        for rules in RULE_SETS:
            small = four(rules)
            for twice, fallen, astray, below in itertools.product([False, True], repeat=4):
                made = (0,) + ((1,) if twice else ()) + ((2,) if fallen else ())
                state = state_of((1, 0), made=made, given=(1 if astray else 2,), bound=2 if below else 1)
                dues = [("twice", twice), ("fallen", fallen), ("astray", astray), ("below", below), (None, True)]
                self.bad([word for word, due in dues if due][0], small, state)

    def test_other_deeds_and_refused_ones(self):
        for rules in RULE_SETS:
            small = four(rules, far=1)
            state = state_of((2, 0), held=2, made=(2, 3), given=(1,), bound=4)
            for deed in small.deeds():
                if deed[0] != "make" or deed == ("make", 0) or "ahead" in rules and deed[1] < 4:
                    self.bad(None, small, state, deed)
            self.bad(None, small, (None,) + state[1:], ("make", 1))
            self.bad(None, small, small.begin(), ("make", 0))

    def test_the_slot_counts(self):
        small = small_of([(1, 0, 4), (0, 0, 4)], 4, (), slots=2)
        # Marks 2 and 3 are those of moment 1.
        state = state_of((1, 0), grant=2, area=(0, 0, 4), taken=2, made=(3,), given=(None, None))
        self.bad("fallen", small, state)
        self.bad("twice", small, state_of((1, 0), area=(1, 0, 4), made=(3,), given=(None, None)))
        self.bad(None, small, state_of((1, 0), area=(1, 0, 4), made=(2,), given=(None, None)))


class BesideAHand(unittest.TestCase):
    def test_after_and_bad_in_all_states_that_come(self):
        words = set()
        for small in some_smalls():
            ways = walked(small, 70 if "ahead" in small.settings.rules else 140)
            for state, way in ways.items():
                self.assertEqual(Beside(small, way).state(), state)
                for deed in small.deeds():
                    hand = Beside(small, way)
                    word = hand.do(deed)
                    words.add(word)
                    self.assertEqual(small.bad(state, deed), None if word == "refused" else word)
                    if word in (None, "refused"):
                        behind = None if hand.state() == state else hand.state()
                        self.assertEqual(small.after(state, deed), behind)
        self.assertEqual(words, {None, "refused", "twice", "fallen", "astray", "below"})

    def test_all_states_of_the_least_small_worlds(self):
        for rules in (RULES, without("apart")):
            for small in (small_of(rules=rules), small_of([(0, 0, 1)], 1, rules)):
                ways = walked(small, 10 ** 6)
                self.assertLess(len(ways), 400)
                for state, way in ways.items():
                    for deed in small.deeds():
                        hand = Beside(small, way)
                        self.assertIn(hand.do(deed), (None, "refused"))
                        self.assertIn(small.after(state, deed), (None, hand.state()))
                        self.assertEqual(small.after(state, deed) is None, hand.state() == state)


class NothingIsChanged(unittest.TestCase):
    def test_the_areas_are_a_list_of_its_own(self):
        areas = [(0, 0, 2)]
        small = Small(small_of().settings, areas, 2)
        areas.append(AREA)
        areas[0] = AREA
        self.assertEqual(small.areas, [(0, 0, 2)])
        self.assertEqual(small.after(small.begin(), ("take", 1))[1][1], (0, 0, 2))
        self.assertEqual(areas, [AREA, AREA])

    def test_the_list_that_is_read_of_it_may_be_changed(self):
        small, other = small_of(), small_of()
        small.areas.append(AREA)
        small.areas[0] = AREA
        self.assertEqual((small.deeds(), small.begin()), (other.deeds(), other.begin()))
        self.assertEqual(small.after(small.begin(), ("take", 1)), other.after(other.begin(), ("take", 1)))

    def test_what_was_told_may_be_changed(self):
        small = small_of()
        told = small.deeds()
        told.append(("take", 9))
        told[0] = None
        self.assertEqual(small.deeds(), small_of().deeds())
        self.assertEqual(small.begin(), BEGIN)

    def test_asked_again(self):
        for small in list(some_smalls())[:9]:
            for state in list(walked(small, 20)):
                for deed in small.deeds():
                    self.assertEqual(small.after(state, deed), small.after(state, deed))
                    self.assertEqual(small.bad(state, deed), small.bad(state, deed))
            self.assertEqual(small.begin()[:5], BEGIN[:5])


if __name__ == "__main__":
    unittest.main()
