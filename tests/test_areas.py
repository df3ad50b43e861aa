"""Point 21, point 2 as far as areas go, and the interface of risemarks.areas."""

import copy
import itertools
import unittest

from odd_things import others
from risemarks.areas import are_apart, has, is_area, nth, rank_of, size_of
from risemarks.shapes import LAST, Shape, mark_of, pair_of, parts_of

TEXTS = ["", "0", "1", "a", "abc", "012", "(0, 0, 1)"]
SHAPES = [(1, 1), (3, 2), (2, 3), (1, 4), (5, 1), (1000, 1000)]


def small_areas(slots):
    """All areas of the first moments, those cut to nothing among them."""
    spans = [(first, end) for first in range(5) for end in range(first, 5)]
    return [(slot, first, end) for slot in range(slots) for first, end in spans]


def marks_by_parts(shape, area):
    """The marks of an area, told one by one by the words of the point."""
    slot, first, end = area
    return [mark_of(shape, moment, slot, count) for moment in range(first, end) for count in range(shape.counts)]


class IsArea(unittest.TestCase):
    def test_areas(self):
        shape = Shape(3, 2)
        for area in [(0, 0, 1), (1, 0, 1), (0, 5, 9), (1, 5, 6), (0, 0, LAST), (1, LAST - 1, LAST)]:
            with self.subTest(area):
                self.assertIs(is_area(shape, area), True)

    def test_the_slot_is_below_slots(self):
        for counts, slots in SHAPES:
            shape = Shape(counts, slots)
            self.assertIs(is_area(shape, (0, 0, 1)), True)
            self.assertIs(is_area(shape, (slots - 1, 0, 1)), True)
            for slot in (slots, slots + 1, -1, LAST, LAST + 1):
                with self.subTest(slots=slots, slot=slot):
                    self.assertIs(is_area(shape, (slot, 0, 1)), False)

    def test_counts_are_not_the_bound_of_the_slot(self):
        self.assertIs(is_area(Shape(1, 4), (3, 0, 1)), True)
        self.assertIs(is_area(Shape(4, 1), (3, 0, 1)), False)

    def test_first_at_end_one_below_and_one_above(self):
        for end in (1, 2, 7, LAST - 1, LAST):
            self.assertIs(is_area(Shape(3, 2), (1, end - 1, end)), True)
            self.assertIs(is_area(Shape(3, 2), (1, end, end)), False)
            self.assertIs(is_area(Shape(3, 2), (1, end + 1, end)), False)
        self.assertIs(is_area(Shape(3, 2), (0, 0, 0)), False)

    def test_the_end_is_a_number(self):
        self.assertIs(is_area(Shape(3, 2), (0, 0, 10 ** 30)), True)
        self.assertIs(is_area(Shape(3, 2), (0, 0, 10 ** 30 + 1)), False)
        self.assertIs(is_area(Shape(3, 2), (0, 10 ** 30, 10 ** 30 + 1)), False)

    def test_no_number_is_below_0(self):
        for thing in [(-1, 0, 1), (0, -1, 1), (0, -2, -1), (0, 0, -1)]:
            with self.subTest(thing):
                self.assertIs(is_area(Shape(3, 2), thing), False)

    def test_other_things_where_a_number_could_stand(self):
        for thing in others() + TEXTS + [[0], (0, 0, 1)]:
            for area in [(thing, 0, 1), (0, thing, 1), (0, 0, thing), (thing, thing, thing)]:
                with self.subTest(kind=type(thing).__name__):
                    self.assertIs(is_area(Shape(3, 2), area), False)

    def test_truths_where_a_number_could_stand(self):
        for area in [(False, 0, 1), (True, 0, 1), (0, False, 1), (0, True, 5), (0, 0, True)]:
            with self.subTest(area):
                self.assertIs(is_area(Shape(3, 2), area), False)

    def test_other_things_where_an_area_could_stand(self):
        shape = Shape(3, 2)
        for thing in others() + TEXTS + [0, 1, -1, LAST, [0, 0, 1], {0: 0, 1: 0, 2: 1}, {0, 1, 2}, range(3)]:
            with self.subTest(kind=type(thing).__name__):
                self.assertIs(is_area(shape, thing), False)

    def test_tuples_of_other_lengths(self):
        for thing in [(), (0,), (0, 1), (0, 0, 1, 1), (0, 0, 1, 2), (0, 0, 1, None), ((0, 0, 1),), (0, 0, 1) * 2]:
            with self.subTest(thing):
                self.assertIs(is_area(Shape(3, 2), thing), False)


class Marks(unittest.TestCase):
    def test_some_sizes(self):
        self.assertEqual(size_of(Shape(3, 2), (1, 5, 9)), 12)
        self.assertEqual(size_of(Shape(1, 1), (0, 0, 1)), 1)
        self.assertEqual(size_of(Shape(3, 2), (0, 7, 7)), 0)
        self.assertEqual(size_of(Shape(1000, 1000), (999, 0, LAST)), 1000 * LAST)
        self.assertEqual(size_of(Shape(1000, 1000), (999, LAST - 1, LAST)), 1000)
        self.assertEqual(size_of(Shape(1000, 1000), (0, LAST, LAST)), 0)

    def test_an_end_ahead_of_the_first_leaves_no_marks(self):
        shape = Shape(3, 2)
        area = (1, 5, 2)
        self.assertEqual(size_of(shape, area), 0)
        self.assertEqual([mark for mark in range(60) if has(shape, area, mark)], [])

    def test_the_size_the_marks_and_their_ranks(self):
        for counts, slots in ((1, 1), (3, 2), (2, 3), (1, 4), (5, 1)):
            shape = Shape(counts, slots)
            for area in small_areas(slots):
                marks = marks_by_parts(shape, area)
                with self.subTest(counts=counts, slots=slots, area=area):
                    self.assertEqual(size_of(shape, area), len(marks))
                    everything = range(6 * counts * slots)
                    self.assertEqual([mark for mark in everything if has(shape, area, mark)], marks)
                    self.assertEqual([nth(shape, area, rank) for rank in range(len(marks))], marks)
                    self.assertEqual([rank_of(shape, area, mark) for mark in marks], list(range(len(marks))))
                    for mark in everything:
                        if mark not in marks:
                            self.assertIsNone(rank_of(shape, area, mark))

    def test_a_rank_is_how_many_marks_of_the_area_are_less(self):
        shape = Shape(3, 2)
        area = (1, 2, 5)
        marks = marks_by_parts(shape, area)
        for mark in marks:
            self.assertEqual(rank_of(shape, area, mark), len([other for other in marks if other < mark]))

    def test_the_first_and_the_last_rank(self):
        for counts, slots in SHAPES:
            shape = Shape(counts, slots)
            for first, end in [(0, 1), (3, 9), (LAST - 1, LAST), (0, LAST)]:
                area = (slots - 1, first, end)
                last = size_of(shape, area) - 1
                least = mark_of(shape, first, slots - 1, 0)
                greatest = mark_of(shape, end - 1, slots - 1, counts - 1)
                self.assertEqual((nth(shape, area, 0), nth(shape, area, last)), (least, greatest))
                self.assertEqual((rank_of(shape, area, least), rank_of(shape, area, greatest)), (0, last))

    def test_the_moments_about_an_area_and_the_slots_beside_it(self):
        shape = Shape(3, 4)
        area = (1, 5, 9)
        for moment, slot, inside in [
            (4, 1, False), (5, 1, True), (8, 1, True), (9, 1, False), (10, 1, False), (0, 1, False),
            (5, 0, False), (5, 2, False), (8, 0, False), (8, 2, False), (8, 3, False), (4, 2, False), (9, 0, False),
        ]:
            for count in range(3):
                mark = mark_of(shape, moment, slot, count)
                with self.subTest(moment=moment, slot=slot, count=count):
                    self.assertIs(has(shape, area, mark), inside)
                    self.assertEqual(rank_of(shape, area, mark), (moment - 5) * 3 + count if inside else None)

    def test_an_area_cut_to_nothing_has_no_marks(self):
        shape = Shape(3, 2)
        for at in (0, 1, 5, LAST):
            area = (1, at, at)
            self.assertEqual(size_of(shape, area), 0)
            for moment, count in itertools.product((at - 1, at, at + 1), range(3)):
                if moment >= 0:
                    mark = mark_of(shape, moment, 1, count)
                    self.assertIs(has(shape, area, mark), False)
                    self.assertIsNone(rank_of(shape, area, mark))

    def test_marks_of_moments_above_last(self):
        shape = Shape(3, 2)
        area = (1, 0, LAST)
        for moment in (LAST, LAST + 1, 10 ** 400):
            mark = mark_of(shape, moment, 1, 0)
            self.assertIs(has(shape, area, mark), False)
            self.assertIsNone(rank_of(shape, area, mark))
        self.assertIs(has(shape, area, mark_of(shape, LAST - 1, 1, 2)), True)

    def test_ranks_and_marks_of_great_areas(self):
        shape = Shape(7, 13)
        area = (12, 10 ** 12, LAST)
        for rank in (0, 1, 6, 7, 8, 10 ** 20, size_of(shape, area) - 2):
            mark = nth(shape, area, rank)
            self.assertEqual(parts_of(shape, mark), (10 ** 12 + rank // 7, 12, rank % 7))
            self.assertEqual(rank_of(shape, area, mark), rank)
            self.assertIs(type(mark), int)


class Apart(unittest.TestCase):
    def test_two_areas_are_apart_where_no_mark_is_in_both(self):
        shape = Shape(1, 2)
        areas = small_areas(2)
        marks = {area: set(marks_by_parts(shape, area)) for area in areas}
        for one, other in itertools.product(areas, repeat=2):
            with self.subTest(one=one, other=other):
                self.assertIs(are_apart(one, other), not marks[one] & marks[other])

    def test_areas_that_touch(self):
        self.assertIs(are_apart((0, 2, 5), (0, 5, 9)), True)
        self.assertIs(are_apart((0, 5, 9), (0, 2, 5)), True)
        self.assertIs(are_apart((0, 2, 6), (0, 5, 9)), False)
        self.assertIs(are_apart((0, 5, 9), (0, 2, 6)), False)
        self.assertIs(are_apart((0, 2, 4), (0, 5, 9)), True)

    def test_areas_within_one_another(self):
        for inner in [(0, 2, 9), (0, 2, 3), (0, 8, 9), (0, 5, 6)]:
            self.assertIs(are_apart((0, 2, 9), inner), False)
            self.assertIs(are_apart(inner, (0, 2, 9)), False)

    def test_areas_that_are_alike(self):
        for area in [(0, 0, 1), (3, 5, 9), (0, 0, LAST), (999, LAST - 1, LAST)]:
            self.assertIs(are_apart(area, area), False)
            self.assertIs(are_apart(area, tuple(list(area))), False)

    def test_areas_of_unlike_slots(self):
        for one, other in [((0, 0, 9), (1, 0, 9)), ((1, 0, LAST), (0, 5, 6)), ((998, 3, 4), (999, 3, 4))]:
            self.assertIs(are_apart(one, other), True)
            self.assertIs(are_apart(other, one), True)

    def test_an_area_cut_to_nothing_is_apart_from_each(self):
        for at in (0, 1, 2, 5, 8, 9, 10):
            for other in [(0, 2, 9), (0, 0, 1), (0, 0, LAST), (0, at, at), (0, at, at + 1), (1, 2, 9)]:
                with self.subTest(at=at, other=other):
                    self.assertIs(are_apart((0, at, at), other), True)
                    self.assertIs(are_apart(other, (0, at, at)), True)

    def test_slots_above_those_of_small_shapes(self):
        self.assertIs(are_apart((LAST, 0, 5), (LAST, 4, 6)), False)
        self.assertIs(are_apart((LAST, 0, 5), (LAST, 5, 6)), True)


class NothingIsChanged(unittest.TestCase):
    def test_what_is_handed_in_stays_as_it_was(self):
        shape = Shape(3, 2)
        for thing in ([0, 0, 1], {"a": [1]}, ([0], 0, 1), (0, [0], 1), [[0, 0, 1]]):
            before = copy.deepcopy(thing)
            self.assertIs(is_area(shape, thing), False)
            self.assertEqual(thing, before)
        self.assertEqual(pair_of(shape), (3, 2))

    def test_asked_again_the_answer_is_the_same(self):
        shape = Shape(3, 2)
        area = (1, 5, 9)
        for again in range(3):
            self.assertIs(is_area(shape, area), True)
            self.assertEqual(size_of(shape, area), 12)
            self.assertEqual(nth(shape, area, 4), mark_of(shape, 6, 1, 1))
            self.assertEqual(rank_of(shape, area, mark_of(shape, 6, 1, 1)), 4)
            self.assertIs(has(shape, area, mark_of(shape, 6, 1, 1)), True)
            self.assertIs(are_apart(area, (1, 8, 10)), False)
            self.assertEqual((area, pair_of(shape)), ((1, 5, 9), (3, 2)))


if __name__ == "__main__":
    unittest.main()
