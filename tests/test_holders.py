"""Point 45, what follows of it in points 38 and 46, and the interface of risemarks.holders."""

import copy
import itertools
import random
import unittest

from risemarks.areas import nth, size_of
from risemarks.errors import NoGrant, Overlap, RiseError
from risemarks.hands import Hand
from risemarks.holders import holder_of, meeting
from risemarks.lender import Lender
from risemarks.rules import Settings
from risemarks.shapes import LAST, Shape, mark_of

SHAPE = Shape(3, 2)


def grants_of(*areas):
    """Grants with these areas; their numbers rise, but are not their places."""
    return [(2 * place + 3, "abcdefgh"[place % 8], area) for place, area in enumerate(areas)]


def marks_in(shape, area):
    return {nth(shape, area, rank) for rank in range(size_of(shape, area))}


def some_grants():
    """Lists of up to three of all small areas, those cut to nothing among them, and some longer ones."""
    areas = [(slot, first, end) for slot in (0, 1) for first in range(3) for end in range(first, 4)]
    lists = [grants_of(*chosen) for length in range(3) for chosen in itertools.product(areas, repeat=length)]
    chance = random.Random(45)
    for again in range(400):
        lists.append(grants_of(*[chance.choice(areas) for k in range(chance.randrange(3, 9))]))
    return lists


class Meeting(unittest.TestCase):
    def test_none_or_a_tuple_of_two_numbers(self):
        self.assertIsNone(meeting([]))
        self.assertIsNone(meeting(grants_of((0, 0, 9))))
        told = meeting(grants_of((0, 0, 9), (0, 8, 20)))
        self.assertEqual(told, (3, 5))
        self.assertIs(type(told), tuple)

    def test_grants_that_touch_meet_and_lie_within_one_another(self):
        for one, other, meet in [
            ((0, 0, 5), (0, 5, 9), False), ((0, 5, 9), (0, 0, 5), False), ((0, 0, 6), (0, 5, 9), True),
            ((0, 5, 9), (0, 0, 6), True), ((0, 0, 9), (0, 3, 4), True), ((0, 3, 4), (0, 0, 9), True),
            ((0, 0, 9), (0, 0, 9), True), ((0, 0, 9), (1, 0, 9), False), ((0, 0, 4), (0, 5, 9), False),
            ((0, 0, 9), (0, 3, 3), False), ((0, 3, 3), (0, 0, 9), False), ((0, 3, 3), (0, 3, 3), False),
            ((0, 0, 3), (0, 3, 3), False), ((0, 3, 3), (0, 3, 9), False), ((0, 0, LAST), (0, LAST - 1, LAST), True),
        ]:
            with self.subTest(one=one, other=other):
                self.assertEqual(meeting(grants_of(one, other)), (3, 5) if meet else None)

    def test_the_first_that_meets_one_ahead_of_it(self):
        # The third meets the second; the fourth meets the first.
        self.assertEqual(meeting(grants_of((0, 0, 5), (1, 0, 5), (1, 4, 9), (0, 4, 9))), (5, 7))
        # The fourth meets all, the first of them is told.
        self.assertEqual(meeting(grants_of((0, 0, 5), (0, 5, 9), (0, 9, 12), (0, 0, 12))), (3, 9))
        self.assertEqual(meeting(grants_of((1, 0, 5), (0, 5, 9), (0, 9, 12), (0, 0, 12))), (5, 9))
        self.assertEqual(meeting(grants_of((0, 4, 4), (0, 0, 9), (0, 9, 9), (0, 8, 10))), (5, 9))
        self.assertEqual(meeting(grants_of((0, 0, 9), (0, 0, 9), (0, 0, 9))), (3, 5))

    def test_as_the_marks_tell(self):
        for grants in some_grants():
            marks = [marks_in(SHAPE, area) for grant, hand, area in grants]
            pairs = [(other, one) for other in range(len(grants)) for one in range(other) if marks[one] & marks[other]]
            first = min(pairs, default=None)
            told = None if first is None else (grants[first[1]][0], grants[first[0]][0])
            self.assertEqual(meeting(grants), told)


class HolderOf(unittest.TestCase):
    def none_has(self, grants, mark):
        with self.assertRaises(NoGrant) as taken:
            holder_of(SHAPE, grants, mark)
        self.assertIs(type(taken.exception), NoGrant)
        self.assertIsInstance(taken.exception, RiseError)
        self.assertEqual(taken.exception.mark, mark)

    def several_have(self, grants, mark, one, other):
        with self.assertRaises(Overlap) as taken:
            holder_of(SHAPE, grants, mark)
        self.assertIs(type(taken.exception), Overlap)
        self.assertEqual((taken.exception.one, taken.exception.other), (one, other))

    def test_the_one_grant_that_has_it(self):
        grants = grants_of((0, 0, 5), (1, 0, 5), (0, 5, 9))
        for moment, slot, told in [
            (0, 0, (3, "a")), (4, 0, (3, "a")), (5, 0, (7, "c")), (8, 0, (7, "c")), (0, 1, (5, "b")), (4, 1, (5, "b")),
        ]:
            for count in range(3):
                self.assertEqual(holder_of(SHAPE, grants, mark_of(SHAPE, moment, slot, count)), told)
        self.assertIs(type(holder_of(SHAPE, grants, 0)), tuple)

    def test_no_grant_has_it(self):
        grants = grants_of((0, 2, 5), (1, 0, 5), (0, 7, 7))
        for moment, slot in [(0, 0), (1, 0), (5, 0), (5, 1), (7, 0), (LAST, 1), (10 ** 400, 0)]:
            for count in range(3):
                self.none_has(grants, mark_of(SHAPE, moment, slot, count))
        for mark in (0, 1, 5, 10 ** 400):
            self.none_has([], mark)

    def test_two_or_more_have_it(self):
        grants = grants_of((0, 3, 3), (0, 0, 5), (1, 0, 9), (0, 2, 9), (0, 3, 4), (0, 8, 9))
        self.several_have(grants, mark_of(SHAPE, 2, 0, 0), 5, 9)
        self.several_have(grants, mark_of(SHAPE, 3, 0, 2), 5, 9)
        self.several_have(grants, mark_of(SHAPE, 8, 0, 1), 9, 13)
        self.assertEqual(holder_of(SHAPE, grants, mark_of(SHAPE, 1, 0, 1)), (5, "b"))
        self.assertEqual(holder_of(SHAPE, grants, mark_of(SHAPE, 5, 0, 1)), (9, "d"))
        self.several_have(grants_of((0, 0, 9), (0, 0, 9), (0, 0, 9)), 0, 3, 5)

    def test_one_hand_with_two_grants(self):
        grants = [(1, "ann", (0, 0, 5)), (4, "ann", (0, 5, 9)), (6, "ann", (0, 8, 12))]
        self.assertEqual(holder_of(SHAPE, grants, mark_of(SHAPE, 5, 0, 0)), (4, "ann"))
        self.several_have(grants, mark_of(SHAPE, 8, 0, 0), 4, 6)

    def test_as_the_marks_tell(self):
        for grants in some_grants()[::3]:
            marks = [marks_in(SHAPE, area) for grant, hand, area in grants]
            for mark in range(24):
                holders = [place for place in range(len(grants)) if mark in marks[place]]
                if not holders:
                    self.none_has(grants, mark)
                elif len(holders) == 1:
                    self.assertEqual(holder_of(SHAPE, grants, mark), grants[holders[0]][:2])
                else:
                    self.several_have(grants, mark, grants[holders[0]][0], grants[holders[1]][0])


class Together(unittest.TestCase):
    def test_each_mark_is_read_back_to_the_hand_that_made_it(self):
        """Hands and a lender by sound settings, with letters read late, never and often."""
        count = 0
        for seed in range(12):
            chance = random.Random(seed)
            settings = Settings(Shape(3, chance.choice([2, 5])), 20, chance.choice([2, 6]), 30)
            lender = Lender(settings)
            hands = {name: Hand(name, settings) for name in ("ann", "bob", "cid")}
            granted, backs, made = [], [], []
            clock = 0
            for step in range(250):
                clock += chance.choice([0, 0, 0, 1])
                hand = hands[chance.choice(sorted(hands))]
                self.step(chance, lender, hand, max(0, clock + chance.randrange(-9, 6)), granted, backs, made)
                for mark, maker in made:
                    self.assertEqual(holder_of(settings.shape, lender.grants(), mark)[1], maker)
                self.assertIsNone(meeting(lender.grants()))
            marks = [mark for mark, maker in made]
            self.assertEqual(len(marks), len(set(marks)))
            for name in hands:
                own = [mark for mark, maker in made if maker == name]
                self.assertEqual(own, sorted(own))
            count += len(made)
        self.assertGreater(count, 100)

    def step(self, chance, lender, hand, reading, granted, backs, made):
        kinds = ["back", "fall"] + ["lend", "free"] * 2 + ["take"] * 6 + ["write"] * 8 + ["make"] * 14
        kind = chance.choice(kinds)
        try:
            if kind == "lend":
                granted.append((hand.name,) + lender.lend(hand.name, hand.tell()))
            elif kind == "take":
                own = [(grant, area) for name, grant, area in granted if name == hand.name]
                if own:
                    hand.take(*chance.choice(own[-2:]))
            elif kind == "write":
                hand.write(reading)
            elif kind == "make":
                made.append((hand.make(reading), hand.name))
            elif kind == "back":
                backs.append(hand.give_back())
            elif kind == "free" and backs:
                lender.free(*chance.choice(backs))
            elif kind == "fall":
                hand.fall()
                hand.rise()
        except RiseError:
            pass


class NothingIsChanged(unittest.TestCase):
    def test_what_is_handed_in_stays_as_it_was(self):
        for grants in some_grants()[::7]:
            before = copy.deepcopy(grants)
            meeting(grants)
            for mark in (0, 7, 40):
                try:
                    holder_of(SHAPE, grants, mark)
                except RiseError:
                    pass
            self.assertEqual(grants, before)

    def test_asked_again_the_answer_is_the_same(self):
        grants = grants_of((0, 0, 5), (0, 4, 9))
        for again in range(3):
            self.assertEqual(meeting(grants), (3, 5))
            self.assertEqual(holder_of(SHAPE, grants, 0), (3, "a"))


if __name__ == "__main__":
    unittest.main()
