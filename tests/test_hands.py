"""Points 33 to 38, points 2 and 3 as far as hands go, and the interface of risemarks.hands."""

import itertools
import random
import unittest

from risemarks.errors import Down, NoArea, NoNote, NoRoom, RiseError, Up, Wait
from risemarks.hands import Hand
from risemarks.notes import read_note, short
from risemarks.rules import RULES, Settings
from risemarks.shapes import LAST, Shape, mark_of, parts_of

# All five, none, and each left out alone.
RULE_SETS = [RULES, ()] + [tuple(word for word in RULES if word != left) for left in RULES]
AREA = (1, 10, 50)


def settings_of(rules=None, far=5, room=4, term=20, counts=3, slots=2):
    return Settings(Shape(counts, slots), far, room, term, rules)


def hand_of(lines=None, rules=None, **others):
    return Hand("ann", settings_of(rules, **others), lines)


def state_of(hand):
    return (hand.is_up(), hand.place(), hand.note(), hand.area(), hand.name)


def answer(ask):
    """What is told, or the refusal's class and its field."""
    try:
        return ("told", ask())
    except Wait as refusal:
        return ("Wait", refusal.reading)
    except NoNote as refusal:
        return ("NoNote", refusal.moment)
    except RiseError as refusal:
        return (type(refusal).__name__, None)


def do(hand, deed):
    return answer(lambda: getattr(hand, deed[0])(*deed[1:]))


class Testing(unittest.TestCase):
    def refuse(self, hand, deed, *told):
        """The deed is refused so, and changes nothing."""
        before = state_of(hand)
        expected = (told[0], told[1] if len(told) > 1 else None)
        self.assertEqual(do(hand, deed), expected)
        self.assertEqual(state_of(hand), before)
        self.assertEqual(do(hand, deed), expected)

    def goes(self, hand, deed, told, lines, place):
        """The deed is answered so; these lines come to the note's end, and the place is this one."""
        note = hand.note()
        self.assertEqual(do(hand, deed), ("told", told))
        self.assertEqual(hand.note(), note + lines)
        self.assertEqual(hand.place(), place)


class Being(Testing):
    def test_made_of_no_lines(self):
        for lines in (None, []):
            for rules in RULE_SETS:
                settings = settings_of(rules)
                hand = Hand("ann", settings, lines)
                self.assertEqual(state_of(hand), (True, (0, 0), [], None, "ann"))
                self.assertIs(hand.settings, settings)
        self.assertEqual(state_of(Hand("bob", settings_of())), (True, (0, 0), [], None, "bob"))

    def test_arguments_by_name(self):
        hand = Hand(lines=[("held", 3)], settings=settings_of(), name="ann")
        self.assertEqual((hand.name, hand.note(), hand.place()), ("ann", [("held", 3)], (3, 0)))

    def test_made_of_lines_in_any_order(self):
        lines = [("took", 2, (1, 10, 50)), ("took", 3, (0, 20, 40)), ("ends", 3, 30), ("held", 7), ("heard", 4)]
        for order in itertools.permutations(lines):
            hand = hand_of(list(order))
            self.assertEqual(hand.note(), list(order))
            self.assertEqual(hand.area(), read_note(list(order))[1])
            self.assertEqual(hand.place(), (7, 0))
            self.assertIs(hand.is_up(), True)

    def test_it_begins_at_the_greater_of_what_it_holds_and_what_it_heard(self):
        for held, heard in itertools.product((0, 1, 5, 6, LAST + 1), repeat=2):
            hand = hand_of([("held", held), ("heard", heard)])
            self.assertEqual(hand.place(), (max(held, heard), 0))
        self.assertEqual(hand_of([("held", 9)]).place(), (9, 0))
        self.assertEqual(hand_of([("heard", 9)]).place(), (9, 0))
        self.assertEqual(hand_of([("took", 1, AREA)]).place(), (0, 0))

    def test_the_area_is_the_one_that_the_note_reads(self):
        self.assertEqual(hand_of([("took", 1, AREA)]).area(), AREA)
        self.assertEqual(hand_of([("took", 1, AREA), ("ends", 1, 20)]).area(), (1, 10, 20))
        self.assertEqual(hand_of([("took", 1, AREA), ("ends", 1, 3)]).area(), (1, 10, 3))
        self.assertEqual(hand_of([("took", 1, AREA), ("ends", 2, 20)]).area(), AREA)
        self.assertIsNone(hand_of([("held", 9), ("ends", 1, 20)]).area())


class FallingAndRising(Testing):
    def test_it_falls_and_rises(self):
        for rules in RULE_SETS:
            lines = [("took", 1, AREA), ("held", 30), ("heard", 12)]
            hand = hand_of(lines, rules)
            hand.hear(12)
            self.goes(hand, ("fall",), None, [], None)
            self.assertEqual(state_of(hand), (False, None, lines, AREA, "ann"))
            self.goes(hand, ("rise",), None, [], (30, 0))
            self.assertEqual(state_of(hand), (True, (30, 0), lines, AREA, "ann"))

    def test_the_place_is_gone(self):
        hand = hand_of([("took", 1, AREA), ("held", 12)], ["ends"])
        hand.hear(40)
        self.assertEqual(hand.place(), (40, 0))
        hand.fall()
        self.assertIsNone(hand.place())
        hand.rise()
        self.assertEqual(hand.place(), (12, 0))

    def test_it_rises_by_what_it_heard_too(self):
        hand = hand_of([("held", 3)])
        hand.hear(8)
        hand.fall()
        hand.rise()
        self.assertEqual(hand.place(), (8, 0))
        hand = hand_of([("heard", 3), ("held", 9)])
        hand.fall()
        hand.rise()
        self.assertEqual(hand.place(), (9, 0))

    def test_down_goes_ahead_of_all_else(self):
        for rules in RULE_SETS:
            for lines in ([], [("took", 1, AREA)], [("took", 1, AREA), ("held", 60)], [("took", 1, (1, 5, 5))]):
                hand = hand_of(lines, rules)
                hand.fall()
                for deed in [("fall",), ("take", 1, AREA), ("take", 2, (0, 0, 9)), ("write", 0), ("write", 99),
                             ("make", 0), ("make", 99), ("hear", 0), ("hear", 99), ("tell",), ("give_back",)]:
                    with self.subTest(rules=rules, lines=lines, deed=deed):
                        self.refuse(hand, deed, "Down")

    def test_one_that_is_up_and_should_rise(self):
        for lines in (None, [("took", 1, AREA), ("held", 12)]):
            hand = hand_of(lines)
            self.refuse(hand, ("rise",), "Up")
            hand.fall()
            hand.rise()
            self.refuse(hand, ("rise",), "Up")

    def test_the_refusals_classes(self):
        hand = hand_of()
        with self.assertRaises(Up) as taken:
            hand.rise()
        self.assertIs(type(taken.exception), Up)
        with self.assertRaises(NoArea) as taken:
            hand.make(3)
        self.assertIs(type(taken.exception), NoArea)
        hand.fall()
        with self.assertRaises(Down) as taken:
            hand.make(3)
        self.assertIs(type(taken.exception), Down)


class Taking(Testing):
    def test_the_line_comes_to_the_end_and_the_place_is_raised_to_its_bound(self):
        for rules in RULE_SETS:
            hand = hand_of([("took", 1, AREA), ("held", 20), ("heard", 10)], rules)
            self.goes(hand, ("take", 2, (0, 5, 9)), True, [("took", 2, (0, 5, 9))], (20, 0))
            self.assertEqual(hand.area(), (0, 5, 9))

    def test_a_moment_that_was_begun_is_left(self):
        for rules in RULE_SETS:
            hand = hand_of([("took", 1, AREA)], rules)
            hand.write(12)
            for again in (0, 1):
                hand.make(12)
            self.assertEqual(hand.place(), (12, 2))
            self.goes(hand, ("take", 2, (0, 5, 90)), True, [("took", 2, (0, 5, 90))], (13, 0))
            self.goes(hand, ("make", 12), mark_of(Shape(3, 2), 13, 0, 0), [], (13, 1))

    def test_a_grant_taken_again_below_and_above_the_greatest(self):
        lines = [("took", 5, AREA), ("took", 3, (0, 5, 9))]
        for rules in RULE_SETS:
            for grant in range(1, 8):
                hand = hand_of(lines, rules)
                with self.subTest(rules=rules, grant=grant):
                    if "once" in rules and grant <= 5:
                        self.goes(hand, ("take", grant, (1, 60, 80)), False, [], (0, 0))
                        self.assertEqual(hand.area(), (0, 5, 9))
                    else:
                        self.goes(hand, ("take", grant, (1, 60, 80)), True, [("took", grant, (1, 60, 80))], (0, 0))
                        self.assertEqual(hand.area(), (1, 60, 80))

    def test_told_false_the_place_is_not_raised(self):
        hand = hand_of([("took", 4, (1, 0, 90))])
        hand.write(2)
        hand.make(2)
        self.goes(hand, ("take", 4, (1, 0, 90)), False, [], (2, 1))
        self.goes(hand, ("take", 3, (1, 0, 90)), False, [], (2, 1))
        self.goes(hand, ("take", 5, (1, 0, 90)), True, [("took", 5, (1, 0, 90))], (3, 0))

    def test_without_once_a_given_back_area_comes_again(self):
        for rules in RULE_SETS:
            hand = hand_of([("took", 1, AREA), ("ends", 1, 20)], rules)
            self.assertEqual(do(hand, ("take", 1, AREA)), ("told", "once" not in rules))
            self.assertEqual(hand.area(), (1, 10, 20) if "once" in rules else AREA)

    def test_the_first_grant(self):
        for rules in RULE_SETS:
            self.goes(hand_of(None, rules), ("take", 1, AREA), True, [("took", 1, AREA)], (0, 0))
            hand = hand_of([("heard", 7), ("ends", 4, 3)], rules)
            self.goes(hand, ("take", 1, (0, 0, LAST)), True, [("took", 1, (0, 0, LAST))], (7, 0))


class Writing(Testing):
    def test_moment_and_room_together(self):
        for rules in RULE_SETS:
            hand = hand_of([("took", 1, AREA)], rules)
            self.goes(hand, ("write", 5), 14, [("held", 14)], (0, 0))
            self.goes(hand, ("write", 10), 14, [], (0, 0))
            self.goes(hand, ("write", 11), 15, [("held", 15)], (0, 0))
            self.goes(hand, ("write", 5), 15, [], (0, 0))
            self.goes(hand, ("write", 30), 34, [("held", 34)], (0, 0))
            self.goes(hand, ("write", 29), 34, [], (0, 0))

    def test_at_what_is_held_and_one_about(self):
        for held, told, lines in [(23, 24, [("held", 24)]), (24, 24, []), (25, 25, [])]:
            hand = hand_of([("took", 1, AREA)])
            hand.write(held - 4)
            self.goes(hand, ("write", 20), told, lines, (0, 0))
            # Made of such a note it is at what it holds.
            hand = hand_of([("took", 1, AREA), ("held", held)])
            self.goes(hand, ("write", 20), held + 4, [("held", held + 4)], (held, 0))

    def test_by_the_place(self):
        hand = hand_of([("took", 1, AREA), ("heard", 30)])
        self.goes(hand, ("write", 26), 34, [("held", 34)], (30, 0))

    def test_without_an_area(self):
        for rules in RULE_SETS:
            for lines in ([], [("held", 9), ("heard", 99), ("ends", 1, 5)]):
                self.refuse(hand_of(lines, rules), ("write", 0), "NoArea")
                self.refuse(hand_of(lines, rules), ("write", LAST), "NoArea")

    def test_at_the_areas_end(self):
        for rules in RULE_SETS:
            hand = hand_of([("took", 1, AREA)], rules)
            self.refuse(hand, ("write", 50), "NoRoom")
            self.refuse(hand, ("write", LAST), "NoRoom")
            self.goes(hand, ("write", 49), 53, [("held", 53)], (0, 0))
            self.refuse(hand_of([("took", 1, AREA), ("heard", 50)], rules), ("write", 0), "NoRoom")
            self.refuse(hand_of([("took", 1, AREA), ("ends", 1, 20)], rules), ("write", 20), "NoRoom")
            self.refuse(hand_of([("took", 1, (1, 10, 10))], rules), ("write", 10), "NoRoom")
            self.refuse(hand_of([("took", 1, AREA), ("ends", 1, 3)], rules), ("write", 0), "NoRoom")

    def test_beyond_far(self):
        for rules in RULE_SETS:
            hand = hand_of([("took", 1, AREA)], rules)
            self.refuse(hand, ("write", 4), "Wait", 5)
            self.refuse(hand, ("write", 0), "Wait", 5)
            self.goes(hand, ("write", 5), 14, [("held", 14)], (0, 0))
            hand = hand_of([("took", 1, AREA), ("heard", 30)], rules)
            self.refuse(hand, ("write", 24), "Wait", 25)
            self.goes(hand, ("write", 25), 34, [("held", 34)], (30, 0))

    def test_the_greatest_room(self):
        hand = hand_of([("took", 1, (0, 0, LAST))], room=10 ** 12)
        self.goes(hand, ("write", LAST - 1), LAST - 1 + 10 ** 12, [("held", LAST - 1 + 10 ** 12)], (0, 0))


class Making(Testing):
    def test_marks_and_places(self):
        shape = Shape(3, 2)
        for rules in RULE_SETS:
            hand = hand_of([("took", 1, AREA)], rules)
            hand.write(10)
            for moment, count, reading, place in [
                (10, 0, 10, (10, 1)), (10, 1, 10, (10, 2)), (10, 2, 6, (11, 0)), (11, 0, 6, (11, 1)),
                (13, 0, 13, (13, 1)), (13, 1, 9, (13, 2)), (13, 2, 13, (14, 0)),
            ]:
                self.goes(hand, ("make", reading), mark_of(shape, moment, 1, count), [], place)

    def test_at_what_is_held_and_one_below(self):
        shape = Shape(3, 2)
        for rules in RULE_SETS:
            hand = hand_of([("took", 1, AREA)], rules)
            hand.write(10)
            self.goes(hand, ("make", 13), mark_of(shape, 13, 1, 0), [], (13, 1))
            if "ahead" in rules:
                self.refuse(hand, ("make", 14), "NoNote", 14)
                self.refuse(hand, ("make", 15), "NoNote", 15)
                self.goes(hand, ("write", 14), 18, [("held", 18)], (13, 1))
            self.goes(hand, ("make", 14), mark_of(shape, 14, 1, 0), [], (14, 1))

    def test_behind_a_rise_it_must_write_anew(self):
        for rules in RULE_SETS:
            hand = hand_of([("took", 1, AREA), ("held", 20)], rules)
            if "ahead" in rules:
                self.refuse(hand, ("make", 18), "NoNote", 20)
            else:
                self.goes(hand, ("make", 18), mark_of(Shape(3, 2), 20, 1, 0), [], (20, 1))

    def test_nothing_held(self):
        for rules in RULE_SETS:
            hand = hand_of([("took", 1, (0, 0, 9))], rules)
            if "ahead" in rules:
                self.refuse(hand, ("make", 0), "NoNote", 0)
            else:
                self.goes(hand, ("make", 0), 0, [], (0, 1))

    def test_without_an_area(self):
        for rules in RULE_SETS:
            for lines in ([], [("held", 9), ("heard", 99), ("ends", 1, 5)]):
                self.refuse(hand_of(lines, rules), ("make", 0), "NoArea")
                self.refuse(hand_of(lines, rules), ("make", LAST), "NoArea")

    def test_at_the_areas_end(self):
        for rules in RULE_SETS:
            hand = hand_of([("took", 1, AREA)], rules)
            hand.write(48)
            self.refuse(hand, ("make", 50), "NoRoom")
            self.refuse(hand, ("make", LAST), "NoRoom")
            self.goes(hand, ("make", 49), mark_of(Shape(3, 2), 49, 1, 0), [], (49, 1))
            self.refuse(hand_of([("took", 1, AREA), ("heard", 50)], rules), ("make", 0), "NoRoom")
            self.refuse(hand_of([("took", 1, AREA), ("ends", 1, 20)], rules), ("make", 20), "NoRoom")

    def test_beyond_far(self):
        for rules in RULE_SETS:
            hand = hand_of([("took", 1, AREA)], rules)
            hand.write(10)
            self.refuse(hand, ("make", 4), "Wait", 5)
            self.goes(hand, ("make", 5), mark_of(Shape(3, 2), 10, 1, 0), [], (10, 1))

    def test_the_order_of_refusals(self):
        for rules in RULE_SETS:
            # No room, beyond far, and nothing held.
            self.refuse(hand_of([("took", 1, (1, 10, 20)), ("heard", 20)], rules), ("make", 0), "NoRoom")
            self.refuse(hand_of([("took", 1, (1, 10, 21)), ("heard", 20)], rules), ("make", 0), "Wait", 15)
        self.refuse(hand_of([("took", 1, (1, 10, 21)), ("heard", 20)]), ("make", 15), "NoNote", 20)

    def test_far_0(self):
        hand = hand_of([("took", 1, (0, 0, 90))], far=0, counts=1)
        hand.write(5)
        self.goes(hand, ("make", 5), 10, [], (6, 0))
        self.refuse(hand, ("make", 5), "Wait", 6)
        self.goes(hand, ("make", 6), 12, [], (7, 0))


class HearingAndTelling(Testing):
    def test_a_bound_below_at_and_above_what_was_heard_and_the_place(self):
        for rules in RULE_SETS:
            for heard, held, bound in itertools.product((0, 5, 8), (0, 5, 8), (0, 4, 5, 6, 7, 8, 9, LAST + 1)):
                hand = hand_of([("heard", heard), ("held", held)], rules)
                lines = [("heard", bound)] if "spoken" in rules and bound > heard else []
                with self.subTest(rules=rules, heard=heard, held=held, bound=bound):
                    self.goes(hand, ("hear", bound), None, lines, (max(heard, held, bound), 0))
                    self.goes(hand, ("hear", bound), None, [], (max(heard, held, bound), 0))
                    self.assertEqual(hand.tell(), max(heard, held, bound))

    def test_within_a_moment_that_was_begun(self):
        for rules in RULE_SETS:
            for bound, place in [(0, (12, 1)), (11, (12, 1)), (12, (12, 1)), (13, (13, 0)), (14, (14, 0))]:
                hand = hand_of([("took", 1, AREA)], rules)
                hand.write(12)
                hand.make(12)
                self.assertEqual(hand.tell(), 13)
                lines = [("heard", bound)] if "spoken" in rules and bound > 0 else []
                self.goes(hand, ("hear", bound), None, lines, place)
                self.assertEqual(hand.tell(), max(13, bound))

    def test_it_tells_also_without_an_area(self):
        for rules in RULE_SETS:
            self.goes(hand_of(None, rules), ("tell",), 0, [], (0, 0))
            self.goes(hand_of([("heard", 7)], rules), ("tell",), 7, [], (7, 0))

    def test_what_was_heard_stays_over_a_fall_where_spoken_holds(self):
        for rules in RULE_SETS:
            hand = hand_of(None, rules)
            hand.hear(9)
            hand.fall()
            hand.rise()
            self.assertEqual(hand.tell(), 9 if "spoken" in rules else 0)


class GivingBack(Testing):
    def back(self, lines, rules, told, place):
        hand = hand_of(lines, rules)
        grant, end = told
        self.goes(hand, ("give_back",), told, [("ends", grant, end)] if "ends" in rules else [], place)
        self.assertEqual(hand.area()[2], end if "ends" in rules else 50)

    def test_at_the_areas_first_at_the_place_and_at_what_is_held(self):
        for rules in RULE_SETS:
            self.back([("took", 3, AREA)], rules, (3, 10), (0, 0))
            self.back([("took", 3, AREA), ("heard", 9)], rules, (3, 10), (9, 0))
            self.back([("took", 3, AREA), ("heard", 20)], rules, (3, 20), (20, 0))
            self.back([("took", 3, AREA), ("heard", 20), ("held", 30)], rules, (3, 30), (30, 0))
            self.back([("took", 3, AREA), ("heard", 49)], rules, (3, 49), (49, 0))

    def test_what_is_held_is_not_given_back(self):
        for rules in RULE_SETS:
            hand = hand_of([("took", 3, AREA)], rules)
            hand.write(12)
            self.goes(hand, ("give_back",), (3, 16), [("ends", 3, 16)] if "ends" in rules else [], (0, 0))

    def test_the_bound_of_the_place_counts(self):
        rules = ["ends"]
        for count, end in [(0, 12), (1, 13), (2, 13)]:
            hand = hand_of([("took", 3, AREA), ("heard", 12)], rules)
            for again in range(count):
                hand.make(12)
            self.assertEqual(hand.give_back(), (3, end))

    def test_it_goes_on_to_make_marks_ahead_of_the_end(self):
        for rules in RULE_SETS:
            hand = hand_of([("took", 3, AREA)], rules)
            hand.write(12)
            self.assertEqual(hand.give_back(), (3, 16))
            self.goes(hand, ("make", 15), mark_of(Shape(3, 2), 15, 1, 0), [], (15, 1))
            if "ends" in rules:
                self.refuse(hand, ("make", 16), "NoRoom")
                self.refuse(hand, ("write", 16), "NoRoom")
                self.refuse(hand, ("give_back",), "NoRoom")
            else:
                self.goes(hand, ("write", 16), 20, [("held", 20)], (15, 1))
                self.goes(hand, ("give_back",), (3, 20), [], (15, 1))

    def test_at_the_end_and_above(self):
        for rules in RULE_SETS:
            for lines in ([("heard", 50)], [("held", 50)], [("heard", 51)], [("held", 99)], [("ends", 3, 10)],
                          [("ends", 3, 4)], [("ends", 3, 0)]):
                self.refuse(hand_of([("took", 3, AREA)] + lines, rules), ("give_back",), "NoRoom")
            self.refuse(hand_of([("took", 3, (1, 10, 10))], rules), ("give_back",), "NoRoom")

    def test_without_an_area(self):
        for rules in RULE_SETS:
            self.refuse(hand_of(None, rules), ("give_back",), "NoArea")
            self.refuse(hand_of([("held", 9), ("ends", 1, 5)], rules), ("give_back",), "NoArea")

    def test_of_the_last_took(self):
        for rules in RULE_SETS:
            hand = hand_of([("took", 5, (0, 0, 90)), ("ends", 5, 8), ("took", 3, AREA), ("ends", 5, 2)], rules)
            self.assertEqual(hand.give_back(), (3, 10))


class Model:
    """A hand by the points' words alone: its own note is walked anew for each thing."""

    def __init__(self, settings, lines):
        self.settings = settings
        self.lines = list(lines)
        self.at = self.start()

    def greatest(self, kind):
        return max([line[1] for line in self.lines if line[0] == kind], default=0)

    def start(self):
        return (max(self.greatest("held"), self.greatest("heard")), 0)

    def bound(self):
        return self.at[0] + (self.at[1] > 0)

    def rule(self, word):
        return word in self.settings.rules

    def do(self, deed):
        if deed[0] == "rise":
            if self.at is not None:
                return ("Up", None)
            self.at = self.start()
            return ("told", None)
        if self.at is None:
            return ("Down", None)
        return getattr(self, deed[0])(*deed[1:])

    def fall(self):
        self.at = None
        return ("told", None)

    def take(self, grant, area):
        if self.rule("once") and grant <= self.greatest("took"):
            return ("told", False)
        self.lines.append(("took", grant, area))
        self.at = max(self.at, (self.bound(), 0))
        return ("told", True)

    def due(self, reading):
        area = read_note(self.lines)[1]
        if area is None:
            return ("NoArea", None)
        moment = max(self.at[0], reading, area[1])
        if moment >= area[2]:
            return ("NoRoom", None)
        if moment > reading + self.settings.far:
            return ("Wait", moment - self.settings.far)
        return moment

    def write(self, reading):
        moment = self.due(reading)
        if isinstance(moment, tuple):
            return moment
        if moment + self.settings.room > self.greatest("held"):
            self.lines.append(("held", moment + self.settings.room))
        return ("told", self.greatest("held"))

    def make(self, reading):
        moment = self.due(reading)
        if isinstance(moment, tuple):
            return moment
        if self.rule("ahead") and moment >= self.greatest("held"):
            return ("NoNote", moment)
        count = self.at[1] if moment == self.at[0] else 0
        shape = self.settings.shape
        self.at = (moment, count + 1) if count + 1 < shape.counts else (moment + 1, 0)
        slot = read_note(self.lines)[1][0]
        return ("told", (moment * shape.slots + slot) * shape.counts + count)

    def hear(self, bound):
        if self.rule("spoken") and bound > self.greatest("heard"):
            self.lines.append(("heard", bound))
        self.at = max(self.at, (bound, 0))
        return ("told", None)

    def tell(self):
        return ("told", self.bound())

    def give_back(self):
        grant, area, held, heard = read_note(self.lines)
        if area is None:
            return ("NoArea", None)
        end = max(area[1], self.bound(), held)
        if end >= area[2]:
            return ("NoRoom", None)
        if self.rule("ends"):
            self.lines.append(("ends", grant, end))
        return ("told", (grant, end))


def some_deeds(chance, count):
    """Deeds by a fixed row of chances; makes, writes and takes come more often than the others."""
    deeds = []
    kinds = ["make"] * 9 + ["write"] * 6 + ["take"] * 2 + ["hear", "tell", "give_back", "fall"] + ["rise"] * 4
    clock = 0
    for k in range(count):
        clock = max(0, clock + chance.choice([-6, -1, 0, 0, 1, 1, 2, 5]))
        kind = chance.choice(kinds)
        if kind in ("make", "write"):
            deeds.append((kind, clock))
        elif kind == "take":
            first = clock + chance.randrange(-3, 6)
            area = (chance.randrange(2), max(0, first), max(0, first) + chance.randrange(1, 70))
            deeds.append((kind, max(1, k // 4 + chance.randrange(-3, 3)), area))
        elif kind == "hear":
            deeds.append((kind, max(0, clock + chance.randrange(-8, 8))))
        else:
            deeds.append((kind,))
    return deeds


def some_lines(chance):
    lines = [("took", chance.randrange(1, 4), (chance.randrange(2), 3, chance.randrange(3, 30))),
             ("held", chance.randrange(9)), ("heard", chance.randrange(9)),
             ("ends", chance.randrange(1, 4), chance.randrange(1, 30))]
    return [chance.choice(lines) for k in range(chance.randrange(5))]


def some_runs(seed, rule_sets):
    for again in range(40):
        chance = random.Random(seed + again)
        for rules in rule_sets:
            settings = settings_of(rules, chance.choice([0, 2, 6, 40]), chance.choice([1, 3, 9]), 20,
                                   chance.choice([1, 2, 3]), 2)
            yield settings, some_lines(chance), some_deeds(chance, 80)


class AsTold(unittest.TestCase):
    def test_each_deed_is_answered_as_the_points_say(self):
        seen = set()
        for settings, lines, deeds in some_runs(33, RULE_SETS):
            hand = Hand("ann", settings, lines)
            model = Model(settings, lines)
            for deed in deeds:
                told = do(hand, deed)
                self.assertEqual(told, model.do(deed))
                self.assertEqual((hand.place(), hand.note()), (model.at, model.lines))
                self.assertEqual(hand.area(), read_note(model.lines)[1])
                seen.add((deed[0], told[0]))
        # The runs are worth something only where each answer comes in them.
        for deed, answers in {
            "make": ("told", "Down", "NoArea", "NoRoom", "Wait", "NoNote"), "write": ("told", "Down", "NoRoom", "Wait"),
            "give_back": ("told", "Down", "NoArea", "NoRoom"), "take": ("told", "Down"), "hear": ("told", "Down"),
            "tell": ("told", "Down"), "fall": ("told", "Down"), "rise": ("told", "Up"),
        }.items():
            for word in answers:
                self.assertIn((deed, word), seen)


class WhatFollows(unittest.TestCase):
    def test_under_sound_settings(self):
        count = 0
        for settings, lines, deeds in some_runs(38, [RULES] * 4):
            hand = Hand("ann", settings, lines)
            marks, heard, ends = [], [], []
            for deed in deeds:
                held = read_note(hand.note())[2]
                grant = read_note(hand.note())[0]
                word, told = do(hand, deed)
                if word != "told":
                    continue
                if deed[0] == "hear":
                    heard.append(deed[1])
                if deed[0] == "give_back":
                    self.assertNotIn(told[0], [other for other, end in ends])
                    ends.append(told)
                if deed[0] == "make":
                    moment = parts_of(settings.shape, told)[0]
                    self.assertLess(max(marks, default=-1), told)
                    self.assertLessEqual(max(heard, default=0), moment)
                    self.assertLess(moment, held)
                    for other, end in ends:
                        if other == grant:
                            self.assertLess(moment, end)
                    marks.append(told)
                    count += 1
        self.assertGreater(count, 500)

    def test_without_the_rules_it_can_go_astray(self):
        for rules in ([], ["apart", "ends", "once", "spoken"]):
            hand = hand_of([("took", 1, AREA)], rules)
            first = hand.make(12)
            hand.fall()
            hand.rise()
            self.assertEqual(hand.make(12), first)

    def test_made_of_the_note_or_of_the_short_note(self):
        for settings, lines, deeds in some_runs(380, RULE_SETS):
            hand = Hand("ann", settings, lines)
            for deed in deeds[:40]:
                do(hand, deed)
            heirs = [Hand("ann", settings, hand.note()), Hand("ann", settings, short(hand.note()))]
            if hand.is_up():
                hand.fall()
            hand.rise()
            for heir in heirs:
                self.assertEqual((heir.is_up(), heir.place(), heir.area()), (True, hand.place(), hand.area()))
            for deed in deeds[40:]:
                told = do(hand, deed)
                for heir in heirs:
                    self.assertEqual(do(heir, deed), told)
                    self.assertEqual((heir.place(), heir.area()), (hand.place(), hand.area()))
            self.assertEqual(heirs[0].note(), hand.note())
            self.assertEqual(read_note(heirs[1].note()), read_note(hand.note()))


class NothingIsChanged(unittest.TestCase):
    def test_the_lines_that_are_handed_in(self):
        lines = [("took", 1, AREA), ("held", 20)]
        hand = hand_of(lines)
        hand.write(22)
        hand.hear(25)
        hand.take(2, (0, 0, 90))
        hand.give_back()
        self.assertEqual(lines, [("took", 1, AREA), ("held", 20)])

    def test_the_lines_may_be_changed_by_whoever_handed_them_in(self):
        lines = [("took", 1, AREA), ("held", 20)]
        hand = hand_of(lines)
        lines.append(("held", 90))
        lines[0] = ("took", 7, (0, 0, 1))
        self.assertEqual(state_of(hand), (True, (20, 0), [("took", 1, AREA), ("held", 20)], AREA, "ann"))
        hand.fall()
        hand.rise()
        self.assertEqual(hand.place(), (20, 0))

    def test_the_note_that_was_told_may_be_changed(self):
        for lines in (None, [], [("took", 1, AREA), ("held", 20)]):
            hand = hand_of(lines)
            before = state_of(hand)
            told = hand.note()
            told.append(("held", 90))
            told[0] = ("took", 7, (0, 0, 1))
            self.assertEqual(state_of(hand), before)
            hand.fall()
            hand.rise()
            self.assertEqual(state_of(hand), before)

    def test_a_note_that_was_told_stays_as_it_was(self):
        hand = hand_of([("took", 1, AREA)])
        told = hand.note()
        hand.write(12)
        self.assertEqual(told, [("took", 1, AREA)])

    def test_asking_changes_nothing(self):
        hand = hand_of([("took", 1, AREA), ("held", 20)])
        before = state_of(hand)
        for again in range(3):
            self.assertEqual(hand.tell(), 20)
            self.assertEqual(state_of(hand), before)

    def test_hands_are_apart_from_one_another(self):
        settings = settings_of()
        one = Hand("ann", settings)
        other = Hand("bob", settings)
        one.take(1, AREA)
        one.hear(9)
        self.assertEqual(state_of(other), (True, (0, 0), [], None, "bob"))
        self.assertEqual(state_of(Hand("cid", settings)), (True, (0, 0), [], None, "cid"))
        heir = Hand("bob", settings, one.note())
        heir.hear(20)
        self.assertEqual(one.note(), [("took", 1, AREA), ("heard", 9)])


if __name__ == "__main__":
    unittest.main()
