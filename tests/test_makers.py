"""Points 22 to 24, and the interface of risemarks.makers."""

import itertools
import unittest

from risemarks.areas import has, nth, size_of
from risemarks.errors import NoRoom, RiseError, Wait
from risemarks.makers import bound_of, made, moment_at, next_place, raised
from risemarks.shapes import LAST, Shape, mark_of, pair_of, parts_of


def answer(shape, far, area, place, reading):
    """What is told, or the refusal's name, with its reading where it is Wait."""
    try:
        return made(shape, far, area, place, reading)
    except NoRoom:
        return "NoRoom"
    except Wait as refusal:
        return ("Wait", refusal.reading)


class Bounds(unittest.TestCase):
    def test_the_moment_where_the_count_is_0_else_one_more(self):
        for moment in (0, 1, 7, LAST, LAST + 1, 10 ** 400):
            self.assertEqual(bound_of((moment, 0)), moment)
            for count in (1, 2, 998, 999):
                self.assertEqual(bound_of((moment, count)), moment + 1)

    def test_all_marks_below_the_place_have_a_moment_below_the_bound(self):
        for place in itertools.product(range(4), range(3)):
            bound = bound_of(place)
            below = [moment for moment, count in itertools.product(range(5), range(3)) if (moment, count) < place]
            self.assertEqual(bound, max(below, default=-1) + 1)


class Raised(unittest.TestCase):
    def test_a_bound_below_at_and_above_the_place(self):
        for place, bound, told in [
            ((5, 0), 4, (5, 0)), ((5, 0), 5, (5, 0)), ((5, 0), 6, (6, 0)), ((5, 0), 0, (5, 0)),
            ((5, 2), 4, (5, 2)), ((5, 2), 5, (5, 2)), ((5, 2), 6, (6, 0)), ((5, 2), 0, (5, 2)),
            ((0, 0), 0, (0, 0)), ((0, 1), 0, (0, 1)), ((0, 1), 1, (1, 0)), ((5, 2), LAST + 7, (LAST + 7, 0)),
            ((LAST, 999), LAST, (LAST, 999)), ((LAST, 999), LAST + 1, (LAST + 1, 0)),
        ]:
            with self.subTest(place=place, bound=bound):
                self.assertEqual(raised(place, bound), told)
                self.assertIs(type(raised(place, bound)), tuple)

    def test_raised_to_its_own_bound(self):
        for place, told in [((5, 0), (5, 0)), ((5, 1), (6, 0)), ((5, 2), (6, 0))]:
            self.assertEqual(raised(place, bound_of(place)), told)

    def test_it_is_the_greater_of_both(self):
        for moment, count, bound in itertools.product(range(4), range(3), range(6)):
            self.assertEqual(raised((moment, count), bound), sorted([(moment, count), (bound, 0)])[1])


class NextPlace(unittest.TestCase):
    def test_one_count_more_or_the_next_moment(self):
        for counts in (1, 2, 3, 1000):
            shape = Shape(counts, 2)
            for moment in (0, 5, LAST, LAST + 1):
                for count in sorted({0, counts // 2, counts - 1}):
                    told = (moment, count + 1) if count + 1 < counts else (moment + 1, 0)
                    self.assertEqual(next_place(shape, (moment, count)), told)

    def test_some(self):
        self.assertEqual(next_place(Shape(3, 1), (5, 0)), (5, 1))
        self.assertEqual(next_place(Shape(3, 1), (5, 1)), (5, 2))
        self.assertEqual(next_place(Shape(3, 1), (5, 2)), (6, 0))
        self.assertEqual(next_place(Shape(1, 7), (5, 0)), (6, 0))

    def test_the_slots_do_not_count(self):
        for slots in (1, 2, 3, 1000):
            self.assertEqual(next_place(Shape(3, slots), (5, 1)), (5, 2))
            self.assertEqual(next_place(Shape(3, slots), (5, 2)), (6, 0))


class Moments(unittest.TestCase):
    def test_the_greatest_of_the_three(self):
        for order in itertools.permutations((3, 5, 7)):
            moment, reading, first = order
            for count in (0, 2):
                self.assertEqual(moment_at((1, first, 9), (moment, count), reading), 7)

    def test_each_alone(self):
        self.assertEqual(moment_at((0, 8, 20), (0, 0), 0), 8)
        self.assertEqual(moment_at((0, 0, 20), (8, 2), 0), 8)
        self.assertEqual(moment_at((0, 0, 20), (0, 0), 8), 8)
        self.assertEqual(moment_at((0, 0, 20), (0, 2), 0), 0)

    def test_it_may_be_at_the_end_and_above(self):
        self.assertEqual(moment_at((0, 5, 9), (9, 0), 0), 9)
        self.assertEqual(moment_at((0, 5, 9), (LAST + 1, 2), LAST), LAST + 1)
        self.assertEqual(moment_at((0, 5, 5), (0, 0), 0), 5)


class Made(unittest.TestCase):
    def test_the_count_is_that_of_the_place_where_the_moment_is(self):
        shape = Shape(3, 2)
        for place, reading, first, moment, count in [
            ((5, 0), 5, 0, 5, 0), ((5, 1), 5, 0, 5, 1), ((5, 2), 5, 0, 5, 2), ((5, 2), 5, 5, 5, 2),
            ((5, 2), 6, 0, 6, 0), ((5, 2), 5, 6, 6, 0), ((5, 1), 0, 0, 5, 1), ((0, 2), 0, 0, 0, 2),
        ]:
            with self.subTest(place=place, reading=reading, first=first):
                mark, behind = made(shape, 10, (1, first, 9), place, reading)
                self.assertEqual(parts_of(shape, mark), (moment, 1, count))
                self.assertEqual(behind, (moment, count + 1) if count < 2 else (moment + 1, 0))

    def test_a_tuple_of_the_mark_and_the_place(self):
        told = made(Shape(3, 2), 0, (1, 0, 9), (5, 2), 5)
        self.assertEqual(told, (35, (6, 0)))
        self.assertEqual((type(told), type(told[1])), (tuple, tuple))

    def test_the_moment_about_the_end(self):
        shape = Shape(3, 2)
        area = (1, 5, 9)
        self.assertEqual(answer(shape, 0, area, (0, 0), 8), (mark_of(shape, 8, 1, 0), (8, 1)))
        self.assertEqual(answer(shape, 9, area, (8, 2), 0), (mark_of(shape, 8, 1, 2), (9, 0)))
        for place, reading in [((9, 0), 0), ((9, 0), 9), ((0, 0), 9), ((0, 0), 10), ((10, 2), 8), ((0, 0), LAST)]:
            self.assertEqual(answer(shape, LAST, area, place, reading), "NoRoom")

    def test_a_reading_below_at_and_above_the_moment_due(self):
        shape = Shape(3, 2)
        area = (1, 0, 90)
        for far in (0, 1, 5):
            for reading in range(25):
                told = answer(shape, far, area, (20, 1), reading)
                with self.subTest(far=far, reading=reading):
                    if reading + far < 20:
                        self.assertEqual(told, ("Wait", 20 - far))
                    elif reading <= 20:
                        self.assertEqual(told, (mark_of(shape, 20, 1, 1), (20, 2)))
                    else:
                        self.assertEqual(told, (mark_of(shape, reading, 1, 0), (reading, 1)))

    def test_the_areas_first_is_waited_for_too(self):
        shape = Shape(3, 2)
        self.assertEqual(answer(shape, 3, (0, 20, 30), (0, 0), 16), ("Wait", 17))
        self.assertEqual(answer(shape, 3, (0, 20, 30), (0, 0), 17), (mark_of(shape, 20, 0, 0), (20, 1)))
        self.assertEqual(answer(shape, 3, (0, 20, 30), (0, 2), 17), (mark_of(shape, 20, 0, 0), (20, 1)))

    def test_far_0_and_great(self):
        shape = Shape(2, 1)
        self.assertEqual(answer(shape, 0, (0, 0, LAST), (LAST - 1, 0), LAST - 2), ("Wait", LAST - 1))
        self.assertEqual(answer(shape, 0, (0, 0, LAST), (LAST - 1, 0), LAST - 1), (2 * (LAST - 1), (LAST - 1, 1)))
        self.assertEqual(answer(shape, LAST, (0, 0, LAST), (LAST - 1, 1), 0), (2 * LAST - 1, (LAST, 0)))
        self.assertEqual(answer(shape, LAST - 2, (0, 0, LAST), (LAST - 1, 1), 0), ("Wait", 1))
        self.assertEqual(answer(shape, LAST - 1, (0, 0, LAST), (LAST - 1, 1), 0), (2 * LAST - 1, (LAST, 0)))

    def test_no_room_goes_ahead_of_wait(self):
        shape = Shape(3, 2)
        self.assertEqual(answer(shape, 0, (1, 0, 20), (20, 0), 3), "NoRoom")
        self.assertEqual(answer(shape, 0, (1, 0, 21), (20, 0), 3), ("Wait", 20))

    def test_an_area_cut_to_nothing_has_no_room(self):
        for at in (0, 1, 5, LAST):
            for place, reading in itertools.product([(0, 0), (at, 0), (at + 1, 2)], (0, at)):
                self.assertEqual(answer(Shape(3, 2), 0, (1, at, at), place, reading), "NoRoom")

    def test_the_refusals_classes(self):
        with self.assertRaises(NoRoom) as taken:
            made(Shape(3, 2), 0, (1, 0, 5), (5, 0), 5)
        self.assertIs(type(taken.exception), NoRoom)
        with self.assertRaises(Wait) as taken:
            made(Shape(3, 2), 0, (1, 0, 5), (4, 0), 3)
        self.assertIs(type(taken.exception), Wait)
        self.assertIsInstance(taken.exception, RiseError)
        self.assertIs(type(taken.exception.reading), int)


class WhatFollows(unittest.TestCase):
    def test_the_least_mark_of_the_area_that_is_not_below_the_place_nor_the_reading(self):
        shape = Shape(2, 2)
        areas = [(1, 0, 4), (0, 2, 4), (1, 3, 4), (0, 2, 2)]
        places = itertools.product(range(5), range(2))
        for area, place, reading, far in itertools.product(areas, places, range(5), (0, 1, 3)):
            marks = [nth(shape, area, rank) for rank in range(size_of(shape, area))]
            parts = [parts_of(shape, mark) for mark in marks]
            left = [(moment, slot, count) for moment, slot, count in parts
                    if (moment, count) >= place and moment >= reading]
            told = answer(shape, far, area, place, reading)
            with self.subTest(area=area, place=place, reading=reading, far=far):
                if not left:
                    self.assertEqual(told, "NoRoom")
                elif left[0][0] > reading + far:
                    self.assertEqual(told, ("Wait", left[0][0] - far))
                else:
                    self.assertEqual(parts_of(shape, told[0]), min(left))
                    self.assertIs(has(shape, area, told[0]), True)
                    self.assertLess((min(left)[0], min(left)[2]), told[1])

    def test_the_reading_that_wait_tells_and_one_less(self):
        shape = Shape(3, 2)
        firsts = (10 ** 13, 10 ** 13 + 7)
        places = [(0, 0), (10 ** 13 + 5, 2)]
        for far, first, place in itertools.product((0, 1, 4, 10 ** 12), firsts, places):
            area = (0, first, LAST)
            word, reading = answer(shape, far, area, place, 3)
            self.assertEqual(word, "Wait")
            self.assertEqual(answer(shape, far, area, place, reading - 1), ("Wait", reading))
            self.assertEqual(answer(shape, far, area, place, 0), ("Wait", reading))
            for later in (reading, reading + 1, reading + far, reading + far + 1, LAST - 1, LAST):
                told = answer(shape, far, area, place, later)
                self.assertTrue(told == "NoRoom" or told[0] != "Wait")
            self.assertEqual(parts_of(shape, answer(shape, far, area, place, reading)[0])[0], reading + far)

    def test_made_one_behind_another_they_rise(self):
        shape = Shape(3, 2)
        place = (0, 0)
        marks = []
        for reading in [0, 0, 0, 0, 5, 5, 2, 9, 9, 9, 9, 0, 11, 3, 12]:
            told = answer(shape, 4, (1, 0, 14), place, reading)
            if told[0] != "Wait":
                marks.append(told[0])
                place = told[1]
        self.assertEqual([parts_of(shape, mark)[::2] for mark in marks], [
            (0, 0), (0, 1), (0, 2), (1, 0), (5, 0), (5, 1), (5, 2), (9, 0), (9, 1), (9, 2), (10, 0), (11, 0), (12, 0)])
        self.assertEqual(marks, sorted(set(marks)))

    def test_with_a_standing_clock_each_mark_of_the_area_comes(self):
        shape = Shape(2, 3)
        area = (2, 3, 6)
        place = (0, 0)
        for rank in range(size_of(shape, area)):
            mark, place = made(shape, 9, area, place, 0)
            self.assertEqual(mark, nth(shape, area, rank))
        self.assertEqual(place, (6, 0))
        self.assertEqual(answer(shape, 9, area, place, 0), "NoRoom")

    def test_asked_again_the_answer_is_the_same(self):
        shape = Shape(3, 2)
        for again in range(3):
            self.assertEqual(answer(shape, 1, (1, 0, 9), (5, 2), 5), (35, (6, 0)))
            self.assertEqual(answer(shape, 1, (1, 0, 9), (5, 2), 3), ("Wait", 4))
            self.assertEqual(answer(shape, 1, (1, 0, 5), (5, 2), 3), "NoRoom")
            self.assertEqual(pair_of(shape), (3, 2))


if __name__ == "__main__":
    unittest.main()
