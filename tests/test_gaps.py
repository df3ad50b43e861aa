"""Points 74 to 76, point 2 as far as they go, and the interface of risemarks.gaps."""

import itertools
import random
import unittest

from risemarks.areas import nth, rank_of, size_of
from risemarks.errors import RiseError
from risemarks.gaps import holes, made_in, skipped
from risemarks.hands import Hand
from risemarks.rules import RULES, Settings
from risemarks.shapes import LAST, Shape, mark_of

# All five, none, and each left out alone.
RULE_SETS = [RULES, ()] + [tuple(word for word in RULES if word != left) for left in RULES]
SHAPE = Shape(3, 2)


class MadeIn(unittest.TestCase):
    def test_how_many_of_the_marks_and_how_many_beside(self):
        grants = [(1, "ann", (0, 0, 4)), (2, "bob", (1, 2, 5)), (5, "ann", (0, 4, 6))]
        marks = [mark_of(SHAPE, 3, 0, 2), mark_of(SHAPE, 0, 0, 0), mark_of(SHAPE, 4, 0, 0), mark_of(SHAPE, 2, 1, 1)]
        self.assertEqual(made_in(SHAPE, grants, marks), [(1, 2, 10), (2, 1, 8), (5, 1, 5)])
        self.assertEqual(made_in(SHAPE, grants, marks[::-1]), [(1, 2, 10), (2, 1, 8), (5, 1, 5)])

    def test_no_marks_and_no_grants(self):
        self.assertEqual(made_in(SHAPE, [(1, "ann", (0, 0, 4))], []), [(1, 0, 12)])
        self.assertEqual(made_in(SHAPE, [], [3, 4]), [])
        self.assertEqual(made_in(SHAPE, [], []), [])

    def test_marks_that_no_area_has_are_passed_over(self):
        area = (1, 2, 5)
        for mark in [mark_of(SHAPE, 1, 1, 2), mark_of(SHAPE, 5, 1, 0), mark_of(SHAPE, 3, 0, 1), 10 ** 40]:
            self.assertEqual(made_in(SHAPE, [(3, "ann", area)], [mark]), [(3, 0, 9)])
        for mark in [mark_of(SHAPE, 2, 1, 0), mark_of(SHAPE, 4, 1, 2)]:
            self.assertEqual(made_in(SHAPE, [(3, "ann", area)], [mark]), [(3, 1, 8)])

    def test_an_area_cut_to_nothing(self):
        marks = [nth(SHAPE, (0, 0, 9), rank) for rank in range(27)]
        grants = [(1, "ann", (0, 4, 4)), (2, "bob", (0, 0, 0)), (3, "bob", (0, 4, 5))]
        self.assertEqual(made_in(SHAPE, grants, marks), [(1, 0, 0), (2, 0, 0), (3, 3, 0)])

    def test_grants_that_meet_count_a_mark_each(self):
        grants = [(2, "ann", (0, 0, 4)), (3, "bob", (0, 3, 6)), (7, "bob", (0, 0, 4)), (9, "ann", (1, 0, 4))]
        marks = [mark_of(SHAPE, 3, 0, 1), mark_of(SHAPE, 5, 0, 1)]
        self.assertEqual(made_in(SHAPE, grants, marks), [(2, 1, 11), (3, 2, 7), (7, 1, 11), (9, 0, 12)])

    def test_all_marks_of_an_area(self):
        for counts, slots, area in [(1, 1, (0, 0, 1)), (3, 2, (1, 4, 9)), (1000, 1000, (999, LAST - 1, LAST))]:
            shape = Shape(counts, slots)
            marks = [nth(shape, area, rank) for rank in range(size_of(shape, area))]
            self.assertEqual(made_in(shape, [(1, "ann", area)], marks), [(1, len(marks), 0)])

    def test_the_greatest_area(self):
        self.assertEqual(made_in(SHAPE, [(1, "ann", (0, 0, LAST))], [0]), [(1, 1, 3 * LAST - 1)])

    def test_beside_counting(self):
        for seed in range(100):
            chance = random.Random(74 + seed)
            shape = Shape(chance.choice([1, 2, 3]), chance.choice([1, 2, 3]))
            grants = []
            for number in sorted(chance.sample(range(1, 20), chance.randrange(5))):
                first = chance.randrange(8)
                area = (chance.randrange(shape.slots), first, first + chance.choice([0, 1, 2, 5]))
                grants.append((number, chance.choice(["ann", "bob"]), area))
            marks = chance.sample(range(130), chance.randrange(60))
            told = []
            for number, hand, area in grants:
                own = {nth(shape, area, rank) for rank in range(size_of(shape, area))}
                told.append((number, len(own & set(marks)), len(own - set(marks))))
            self.assertEqual(made_in(shape, grants, marks), told)


class Skipped(unittest.TestCase):
    def ranks(self, area, ranks, *told, shape=SHAPE):
        """Of the marks of these ranks this is told, in whatever order they are handed in."""
        marks = [nth(shape, area, rank) for rank in ranks]
        for order in (marks, marks[::-1], marks[1:] + marks[:1]):
            self.assertEqual(skipped(shape, area, order), list(told))
            self.assertEqual(holes(shape, area, order), sum(hi - lo for lo, hi in told))

    def test_at_the_areas_first(self):
        self.ranks((1, 4, 9), [0])
        self.ranks((1, 4, 9), [1], (0, 1))
        self.ranks((1, 4, 9), [5], (0, 5))
        self.ranks((1, 4, 9), [14], (0, 14))

    def test_between_marks(self):
        self.ranks((1, 4, 9), [0, 1, 2])
        self.ranks((1, 4, 9), [0, 2], (1, 2))
        self.ranks((1, 4, 9), [0, 3, 4, 8], (1, 3), (5, 8))
        self.ranks((1, 4, 9), [1, 3, 5], (0, 1), (2, 3), (4, 5))
        self.ranks((1, 4, 9), list(range(15)))
        self.ranks((1, 4, 9), list(range(1, 15)), (0, 1))

    def test_in_moments_that_were_begun(self):
        marks = [mark_of(SHAPE, 4, 1, 0), mark_of(SHAPE, 4, 1, 1), mark_of(SHAPE, 6, 1, 0), mark_of(SHAPE, 6, 1, 2)]
        self.assertEqual(skipped(SHAPE, (1, 4, 9), marks), [(2, 6), (7, 8)])
        self.assertEqual(holes(SHAPE, (1, 4, 9), marks), 5)

    def test_none_of_the_marks_in_the_area(self):
        for marks in ([], [mark_of(SHAPE, 5, 0, 0)], [mark_of(SHAPE, 3, 1, 2), mark_of(SHAPE, 9, 1, 0)], [10 ** 40]):
            self.assertEqual(skipped(SHAPE, (1, 4, 9), marks), [])
            self.assertEqual(holes(SHAPE, (1, 4, 9), marks), 0)
        self.assertEqual(skipped(SHAPE, (1, 4, 4), [mark_of(SHAPE, 4, 1, 0)]), [])
        self.assertEqual(holes(SHAPE, (1, 4, 4), [mark_of(SHAPE, 4, 1, 0)]), 0)

    def test_other_marks_don_t_count(self):
        own = [mark_of(SHAPE, 5, 1, 0)]
        more = [mark_of(SHAPE, 8, 0, 0), mark_of(SHAPE, 3, 1, 0), mark_of(SHAPE, 9, 1, 0), mark_of(SHAPE, 4, 0, 1)]
        for marks in itertools.permutations(own + more):
            self.assertEqual(skipped(SHAPE, (1, 4, 9), list(marks)), [(0, 3)])

    def test_what_is_behind_the_greatest_mark_is_not_told(self):
        self.ranks((0, 0, LAST), [0])
        self.ranks((0, 0, LAST), [3 * LAST - 1], (0, 3 * LAST - 1))
        self.ranks((0, 0, LAST), [0, 3 * LAST - 1], (1, 3 * LAST - 1))

    def test_beside_a_walk_through_all_ranks(self):
        for seed in range(300):
            chance = random.Random(75 + seed)
            shape = Shape(chance.choice([1, 2, 3]), chance.choice([1, 2]))
            first = chance.randrange(6)
            area = (chance.randrange(shape.slots), first, first + chance.choice([0, 1, 4, 9]))
            marks = chance.sample(range(100), chance.randrange(40))
            ranks = {rank_of(shape, area, mark) for mark in marks} - {None}
            free = [rank for rank in range(max(ranks, default=0)) if rank not in ranks]
            told = skipped(shape, area, marks)
            self.assertEqual([rank for lo, hi in told for rank in range(lo, hi)], free)
            self.assertTrue(all(lo < hi for lo, hi in told))
            self.assertTrue(all(one[1] < other[0] for one, other in zip(told, told[1:])))
            self.assertEqual(holes(shape, area, marks), len(free))
            for part in told:
                self.assertIs(type(part), tuple)


class WhatFollows(unittest.TestCase):
    def run_hand(self, chance, rules, falls):
        """The settings, the area, the marks made, each once, and how often the hand fell."""
        shape = Shape(chance.choice([1, 3]), chance.choice([1, 2]))
        settings = Settings(shape, 1000, chance.choice([1, 2, 5]), 10, rules)
        area = (chance.randrange(shape.slots), 20, 20 + chance.choice([4, 30, 200]))
        hand, marks, fell = Hand("ann", settings), [], 0
        hand.take(chance.randrange(1, 4), area)
        for step in range(80):
            kind = chance.choice(["make"] * 6 + ["write"] * 3 + (["fall", "rise"] if falls else []) + ["rise"])
            more = (chance.randrange(21),) if kind in ("make", "write") else ()
            try:
                told = getattr(hand, kind)(*more)
            except RiseError:
                continue
            fell += kind == "fall"
            if kind == "make" and told not in marks:
                marks.append(told)
        return settings, area, marks, fell

    def test_at_most_room_times_counts_for_each_fall(self):
        most = 0
        for seed in range(60):
            for rules in RULE_SETS:
                settings, area, marks, fell = self.run_hand(random.Random(76 + seed), rules, True)
                told = holes(settings.shape, area, marks)
                self.assertLessEqual(told, settings.room * settings.shape.counts * fell)
                most = max(most, told)
        self.assertGreater(most, 20)

    def test_a_hand_that_never_fell_skips_nothing(self):
        count = 0
        for seed in range(30):
            for rules in RULE_SETS:
                settings, area, marks, fell = self.run_hand(random.Random(760 + seed), rules, False)
                self.assertEqual((fell, skipped(settings.shape, area, marks)), (0, []))
                count += len(marks)
        self.assertGreater(count, 500)

    def test_a_fall_costs_what_was_written_ahead(self):
        for rules in RULE_SETS:
            settings = Settings(SHAPE, 50, 4, 20, rules)
            hand = Hand("ann", settings)
            hand.take(1, (1, 10, 60))
            hand.write(10)
            marks = [hand.make(10), hand.make(10)]
            hand.fall()
            hand.rise()
            hand.write(10)
            marks.append(hand.make(10))
            self.assertEqual(skipped(SHAPE, (1, 10, 60), marks), [(2, 12)])
            self.assertEqual(holes(SHAPE, (1, 10, 60), marks), 10)


class NothingIsChanged(unittest.TestCase):
    def test_what_is_handed_in_and_what_was_told(self):
        grants = [(1, "ann", (1, 4, 9))]
        marks = [mark_of(SHAPE, 6, 1, 0), mark_of(SHAPE, 4, 1, 1)]
        copies = (list(grants), list(marks))
        for again in range(3):
            told = made_in(SHAPE, grants, marks)
            self.assertEqual(told, [(1, 2, 13)])
            told.append(7)
            told[0] = None
            told = skipped(SHAPE, (1, 4, 9), marks)
            self.assertEqual(told, [(0, 1), (2, 6)])
            told.clear()
            self.assertEqual(holes(SHAPE, (1, 4, 9), marks), 5)
        self.assertEqual((grants, marks), copies)

    def test_arguments_by_name(self):
        self.assertEqual(made_in(marks=[0], grants=[(1, "ann", (0, 0, 1))], shape=SHAPE), [(1, 1, 2)])
        self.assertEqual(skipped(marks=[1], area=(0, 0, 1), shape=SHAPE), [(0, 1)])
        self.assertEqual(holes(marks=[1], area=(0, 0, 1), shape=SHAPE), 1)


if __name__ == "__main__":
    unittest.main()
