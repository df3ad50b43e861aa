"""Points 41 to 44 and 46, points 2 and 3 as far as a lender goes, and the interface of risemarks.lender."""

import itertools
import random
import unittest

from risemarks.areas import are_apart, is_area
from risemarks.errors import NoRoom
from risemarks.holders import meeting
from risemarks.lender import Lender
from risemarks.rules import RULES, Settings
from risemarks.shapes import LAST, Shape

# All five, none, and each left out alone.
RULE_SETS = [RULES, ()] + [tuple(word for word in RULES if word != left) for left in RULES]
APART = [rules for rules in RULE_SETS if "apart" in rules]
NOT_APART = [rules for rules in RULE_SETS if "apart" not in rules]


def lender_of(grants=None, rules=None, slots=2, term=10, counts=3):
    return Lender(Settings(Shape(counts, slots), 5, 4, term, rules), grants)


def state_of(lender):
    return (lender.grants(), [lender.free_at(slot) for slot in range(lender.settings.shape.slots)])


class Testing(unittest.TestCase):
    def lends(self, lender, least, grant, area, hand="ann"):
        before = lender.grants()
        told = lender.lend(hand, least)
        self.assertEqual(told, (grant, area))
        self.assertEqual((type(told), type(told[1])), (tuple, tuple))
        self.assertEqual(lender.grants(), before + [(grant, hand, area)])

    def full(self, lender, least):
        before = state_of(lender)
        with self.assertRaises(NoRoom) as taken:
            lender.lend("ann", least)
        self.assertIs(type(taken.exception), NoRoom)
        self.assertEqual(state_of(lender), before)

    def frees(self, lender, grant, end):
        before = lender.grants()
        self.assertIs(lender.free(grant, end), True)
        number, hand, (slot, first, old) = before[grant - 1]
        before[grant - 1] = (number, hand, (slot, first, end))
        self.assertEqual(lender.grants(), before)

    def keeps(self, lender, grant, end):
        before = state_of(lender)
        self.assertIs(lender.free(grant, end), False)
        self.assertEqual(state_of(lender), before)


class Being(Testing):
    def test_made_of_no_grants(self):
        for grants in (None, []):
            for rules in RULE_SETS:
                settings = Settings(Shape(3, 2), 5, 4, 10, rules)
                lender = Lender(settings, grants)
                self.assertIs(lender.settings, settings)
                self.assertEqual(state_of(lender), ([], [0, 0]))
        self.assertEqual(Lender(grants=None, settings=settings).grants(), [])

    def test_made_of_grants(self):
        grants = [(1, "ann", (1, 0, 10)), (2, "bob", (0, 7, 7)), (3, "ann", (1, 10, 14))]
        for rules in RULE_SETS:
            lender = lender_of(grants, rules)
            self.assertEqual(state_of(lender), (grants, [7, 14]))

    def test_the_free_moment_is_the_greatest_end_of_the_slots_areas(self):
        grants = [(1, "ann", (0, 0, 30)), (2, "ann", (1, 5, 15)), (3, "ann", (0, 3, 13)), (4, "bob", (1, 2, 12))]
        for order in itertools.permutations([area for grant, hand, area in grants]):
            made = [(k + 1, "ann", area) for k, area in enumerate(order)]
            for rules in RULE_SETS:
                self.assertEqual(state_of(lender_of(made, rules, slots=3))[1], [30, 15, 0])

    def test_an_area_cut_to_nothing_counts_by_its_end(self):
        lender = lender_of([(1, "ann", (0, 9, 9)), (2, "ann", (1, 0, 0))])
        self.assertEqual([lender.free_at(0), lender.free_at(1)], [9, 0])


class LendingApart(Testing):
    def test_one_slot(self):
        for rules in APART:
            lender = lender_of(None, rules, slots=1)
            self.lends(lender, 0, 1, (0, 0, 10))
            self.lends(lender, 0, 2, (0, 10, 20), "bob")
            self.lends(lender, 19, 3, (0, 20, 30))
            self.lends(lender, 30, 4, (0, 30, 40))
            self.lends(lender, 41, 5, (0, 41, 51))
            self.lends(lender, 0, 6, (0, 51, 61))

    def test_the_slot_whose_first_moment_is_least_and_of_several_the_least(self):
        for rules in APART:
            lender = lender_of(None, rules, slots=3)
            self.lends(lender, 5, 1, (0, 5, 15))
            self.lends(lender, 0, 2, (1, 0, 10))
            self.lends(lender, 0, 3, (2, 0, 10))
            self.lends(lender, 0, 4, (1, 10, 20))
            self.lends(lender, 12, 5, (2, 12, 22))
            self.lends(lender, 0, 6, (0, 15, 25))
            self.assertEqual(state_of(lender)[1], [25, 20, 22])
            self.lends(lender, 22, 7, (1, 22, 32))
            self.lends(lender, 25, 8, (0, 25, 35))

    def test_a_least_moment_below_at_and_above_the_free_moment(self):
        for least, area in [(0, (1, 20, 30)), (19, (1, 20, 30)), (20, (1, 20, 30)), (21, (1, 21, 31)),
                            (29, (1, 29, 39)), (30, (0, 30, 40)), (31, (0, 31, 41))]:
            for rules in APART:
                lender = lender_of([(1, "ann", (0, 20, 30)), (2, "ann", (1, 10, 20))], rules)
                self.lends(lender, least, 3, area)

    def test_many_slots(self):
        lender = lender_of(None, slots=1000)
        for slot in range(1000):
            self.assertEqual(lender.lend("ann", 7), (slot + 1, (slot, 7, 17)))
        self.assertEqual(lender.lend("ann", 0), (1001, (0, 17, 27)))
        self.assertEqual(lender.lend("ann", 7), (1002, (1, 17, 27)))
        self.assertEqual([lender.free_at(slot) for slot in (0, 1, 2, 999)], [27, 27, 17, 17])

    def test_first_and_term_together_at_last_and_one_above(self):
        for rules in APART:
            lender = lender_of(None, rules)
            self.lends(lender, LAST - 10, 1, (0, LAST - 10, LAST))
            self.full(lender, LAST - 9)
            self.full(lender, LAST)
            self.lends(lender, LAST - 10, 2, (1, LAST - 10, LAST))
            self.full(lender, LAST - 10)
            self.full(lender, 0)
            lender = lender_of([(1, "ann", (0, 0, LAST - 9)), (2, "ann", (1, 0, LAST - 9))], rules)
            self.full(lender, 0)
            lender = lender_of([(1, "ann", (0, 0, LAST - 9)), (2, "ann", (1, 0, LAST - 10))], rules)
            self.lends(lender, 0, 3, (1, LAST - 10, LAST))

    def test_the_greatest_and_the_least_term(self):
        self.lends(lender_of(term=10 ** 12), 3, 1, (0, 3, 10 ** 12 + 3))
        self.lends(lender_of(term=1), LAST - 1, 1, (0, LAST - 1, LAST))
        self.full(lender_of(term=1), LAST)


class LendingNotApart(Testing):
    def test_the_slot_is_the_number_of_the_grants_modulo_slots(self):
        for rules in NOT_APART:
            lender = lender_of(None, rules, slots=3)
            for grant, least in enumerate([5, 0, 0, 0, 7, 7, 99], start=1):
                self.lends(lender, least, grant, ((grant - 1) % 3, least, least + 10))
            lender = lender_of(None, rules, slots=1)
            self.lends(lender, 4, 1, (0, 4, 14))
            self.lends(lender, 4, 2, (0, 4, 14))
            self.lends(lender, 0, 3, (0, 0, 10))
            self.assertEqual(lender.free_at(0), 14)

    def test_made_of_grants_it_goes_on_by_their_number(self):
        grants = [(1, "ann", (2, 0, 10)), (2, "bob", (2, 4, 4))]
        for rules in NOT_APART:
            self.lends(lender_of(grants, rules, slots=3), 1, 3, (2, 1, 11))

    def test_first_and_term_together_at_last_and_one_above(self):
        for rules in NOT_APART:
            lender = lender_of([(1, "ann", (1, 0, LAST))], rules)
            self.full(lender, LAST - 9)
            self.full(lender, LAST)
            self.lends(lender, LAST - 10, 2, (1, LAST - 10, LAST))
            self.lends(lender, 0, 3, (0, 0, 10))

    def test_two_grants_may_meet(self):
        for rules in NOT_APART:
            lender = lender_of(None, rules)
            for again in range(3):
                lender.lend("ann", 0)
            self.assertEqual(meeting(lender.grants()), (1, 3))


class Freeing(Testing):
    def test_from_the_areas_first_on_and_below_its_end(self):
        for rules in RULE_SETS:
            for end in range(18, 35):
                lender = lender_of([(1, "ann", (0, 20, 30))], rules)
                if 20 <= end < 30:
                    self.frees(lender, 1, end)
                    self.assertEqual([lender.free_at(0), lender.free_at(1)], [end, 0])
                else:
                    self.keeps(lender, 1, end)

    def test_any_whole_numbers(self):
        for rules in RULE_SETS:
            lender = lender_of([(1, "ann", (0, 0, 10))], rules)
            for end in (-1, -10 ** 40, 10, 10 ** 40, LAST, LAST + 1):
                self.keeps(lender, 1, end)
            for grant in (0, -1, -2, 2, 3, 10 ** 40, -10 ** 40):
                for end in (0, 5, 9, 10):
                    self.keeps(lender, grant, end)
            self.keeps(lender_of(None, rules), 1, 0)
            self.keeps(lender_of(None, rules), 0, 0)

    def test_behind_another_grant_of_its_slot(self):
        grants = [(1, "ann", (0, 0, 10)), (2, "bob", (1, 0, 10)), (3, "bob", (0, 10, 20))]
        for rules in RULE_SETS:
            lender = lender_of(grants, rules)
            for end in range(12):
                self.keeps(lender, 1, end)
            self.frees(lender, 2, 5)
            self.frees(lender, 3, 15)
            # Behind one that was cut to nothing, too.
            self.frees(lender, 3, 10)
            self.keeps(lender, 1, 5)

    def test_a_later_grant_of_its_slot_with_a_lesser_end(self):
        for rules in RULE_SETS:
            lender = lender_of([(1, "ann", (0, 20, 30)), (2, "bob", (0, 0, 10))], rules)
            self.keeps(lender, 1, 25)
            # The later one's end is not the free moment of the slot.
            self.keeps(lender, 2, 5)
            self.keeps(lender, 2, 0)

    def test_an_end_that_another_area_of_the_slot_has_too(self):
        for rules in RULE_SETS:
            lender = lender_of([(1, "ann", (0, 0, 10)), (2, "bob", (0, 0, 10))], rules)
            self.keeps(lender, 1, 5)
            self.frees(lender, 2, 5)
            self.assertEqual(lender.free_at(0), 10)
            self.keeps(lender, 2, 4)

    def test_twice_and_again_earlier(self):
        for rules in RULE_SETS:
            lender = lender_of([(1, "ann", (0, 20, 30))], rules)
            self.frees(lender, 1, 27)
            self.keeps(lender, 1, 27)
            self.keeps(lender, 1, 28)
            self.keeps(lender, 1, 30)
            self.frees(lender, 1, 26)
            self.frees(lender, 1, 20)
            self.keeps(lender, 1, 20)
            self.keeps(lender, 1, 19)

    def test_what_was_freed_is_lent_anew(self):
        for rules in APART:
            lender = lender_of(None, rules, slots=1)
            self.lends(lender, 0, 1, (0, 0, 10))
            self.frees(lender, 1, 4)
            self.lends(lender, 0, 2, (0, 4, 14), "bob")
            self.keeps(lender, 1, 2)
            self.frees(lender, 2, 4)
            self.assertEqual(lender.grants(), [(1, "ann", (0, 0, 4)), (2, "bob", (0, 4, 4))])
            self.lends(lender, 0, 3, (0, 4, 14))
            self.keeps(lender, 2, 4)

    def test_an_area_cut_to_nothing_stays(self):
        for rules in APART:
            lender = lender_of(None, rules, slots=1)
            self.lends(lender, 7, 1, (0, 7, 17))
            self.frees(lender, 1, 7)
            self.assertEqual(state_of(lender), ([(1, "ann", (0, 7, 7))], [7]))
            self.lends(lender, 0, 2, (0, 7, 17))


class Model:
    """A lender by the points' words alone."""

    def __init__(self, settings):
        self.settings = settings
        self.kept = []

    def free_at(self, slot):
        return max([area[2] for grant, hand, area in self.kept if area[0] == slot], default=0)

    def lend(self, hand, least):
        slots = self.settings.shape.slots
        slot, first = len(self.kept) % slots, least
        if "apart" in self.settings.rules:
            first, slot = min((max(self.free_at(k), least), k) for k in range(slots))
        if first + self.settings.term > LAST:
            return "NoRoom"
        self.kept.append((len(self.kept) + 1, hand, (slot, first, first + self.settings.term)))
        return (self.kept[-1][0], self.kept[-1][2])

    def free(self, grant, end):
        for k, (number, hand, (slot, first, old)) in enumerate(self.kept):
            later = [area for other, name, area in self.kept if other > number and area[0] == slot]
            if number == grant and not later and old == self.free_at(slot) and first <= end < old:
                self.kept[k] = (number, hand, (slot, first, end))
                return True
        return False


def do(lender, deed):
    if deed[0] == "free":
        return lender.free(deed[1], deed[2])
    try:
        return lender.lend(deed[1], deed[2])
    except NoRoom:
        return "NoRoom"


def some_runs(rule_sets):
    """Settings, and deeds by a fixed row of chances; what is freed was mostly lent a short while ago."""
    for again in range(30):
        chance = random.Random(41 + again)
        for rules in rule_sets:
            settings = Settings(Shape(2, chance.choice([1, 2, 5])), 0, 1, chance.choice([1, 4, 9]), rules)
            start = chance.choice([0, 0, 100, LAST - 40])
            model = Model(settings)
            deeds = []
            for k in range(40):
                kept = model.kept[-chance.randrange(1, 7):]
                if chance.randrange(3) < 2 or not kept:
                    deeds.append(("lend", chance.choice(["ann", "bob"]), start + chance.randrange(30)))
                else:
                    grant, hand, (slot, first, end) = chance.choice(kept)
                    grant += chance.choice([0] * 8 + [-1, 1])
                    deeds.append(("free", grant, chance.randrange(first - 1, end + 2)))
                do(model, deeds[-1])
            yield settings, deeds


class WhatFollows(unittest.TestCase):
    def test_each_deed_is_answered_as_the_points_say(self):
        seen = {}
        for settings, deeds in some_runs(RULE_SETS):
            lender = Lender(settings)
            model = Model(settings)
            for deed in deeds:
                told = do(lender, deed)
                self.assertEqual(told, do(model, deed))
                self.assertEqual(lender.grants(), model.kept)
                slots = range(settings.shape.slots)
                self.assertEqual([lender.free_at(slot) for slot in slots], [model.free_at(slot) for slot in slots])
                word = told if told == "NoRoom" or isinstance(told, bool) else "lent"
                seen[word] = seen.get(word, 0) + 1
        self.assertTrue(all(seen[word] > 100 for word in ("NoRoom", "lent", True, False)), seen)

    def test_made_of_the_told_grants_it_goes_on_as_the_first(self):
        for settings, deeds in some_runs(RULE_SETS):
            for cut in (0, 1, 15, 40):
                first = Lender(settings)
                for deed in deeds[:cut]:
                    do(first, deed)
                second = Lender(settings, first.grants())
                for deed in deeds[cut:]:
                    self.assertEqual(do(second, deed), do(first, deed))
                self.assertEqual(second.grants(), first.grants())

    def test_where_apart_holds_no_two_grants_ever_meet(self):
        for settings, deeds in some_runs(APART):
            lender = Lender(settings)
            for deed in deeds:
                slots = settings.shape.slots
                free = [lender.free_at(slot) for slot in range(slots)]
                told = do(lender, deed)
                areas = [area for grant, hand, area in lender.grants()]
                for one, other in itertools.combinations(areas, 2):
                    self.assertTrue(are_apart(one, other))
                if deed[0] == "lend" and told != "NoRoom":
                    slot, first, end = told[1]
                    self.assertTrue(is_area(settings.shape, told[1]))
                    self.assertGreaterEqual(first, free[slot])
                    self.assertGreaterEqual(first, deed[2])
                    self.assertTrue(all(first <= max(moment, deed[2]) for moment in free))

    def test_the_grants_are_told_in_order(self):
        for settings, deeds in some_runs(RULE_SETS):
            lender = Lender(settings)
            for deed in deeds:
                do(lender, deed)
            numbers = [grant for grant, hand, area in lender.grants()]
            self.assertEqual(numbers, list(range(1, len(numbers) + 1)))


class NothingIsChanged(Testing):
    def test_the_grants_that_are_handed_in(self):
        grants = [(1, "ann", (0, 0, 10)), (2, "bob", (1, 0, 10))]
        lender = lender_of(grants)
        lender.lend("ann", 0)
        lender.free(2, 5)
        self.assertEqual(grants, [(1, "ann", (0, 0, 10)), (2, "bob", (1, 0, 10))])

    def test_they_may_be_changed_by_whoever_handed_them_in(self):
        grants = [(1, "ann", (0, 0, 10))]
        lender = lender_of(grants)
        grants.append((2, "bob", (1, 0, 90)))
        grants[0] = (1, "cid", (0, 0, 70))
        self.assertEqual(state_of(lender), ([(1, "ann", (0, 0, 10))], [10, 0]))
        self.lends(lender, 0, 2, (1, 0, 10))

    def test_the_grants_that_were_told_may_be_changed(self):
        for made in (None, [], [(1, "ann", (0, 0, 10))]):
            lender = lender_of(made)
            before = state_of(lender)
            told = lender.grants()
            told.append((2, "bob", (1, 0, 90)))
            told[0] = (1, "cid", (0, 0, 70))
            self.assertEqual(state_of(lender), before)

    def test_grants_that_were_told_stay_as_they_were(self):
        lender = lender_of()
        lender.lend("ann", 0)
        told = lender.grants()
        lender.lend("bob", 0)
        lender.free(1, 5)
        self.assertEqual(told, [(1, "ann", (0, 0, 10))])

    def test_lenders_are_apart_from_one_another(self):
        first = lender_of()
        first.lend("ann", 0)
        second = Lender(first.settings, first.grants())
        second.lend("bob", 0)
        second.free(1, 3)
        self.assertEqual(first.grants(), [(1, "ann", (0, 0, 10))])
        self.assertEqual(Lender(first.settings).grants(), [])


if __name__ == "__main__":
    unittest.main()
