"""Points 2, 11 and 12, and the interface of risemarks.shapes."""

import copy
import itertools
import string
import unittest

from odd_things import others
from risemarks.errors import BadShape, RiseError
from risemarks.shapes import LAST, Shape, is_name, is_number, is_whole, mark_of, pair_of, parts_of

TEXTS = ["", "0", "1", "a", "ann", "-1", "1.0", " ", "\n", "True"]
WHOLES = [0, 1, -1, 2, 999, 1000, 1001, -1000, LAST - 1, LAST, LAST + 1, -LAST, 10 ** 400, -(10 ** 400)]
SHAPES = [(1, 1), (1, 2), (2, 1), (3, 2), (2, 3), (1, 1000), (1000, 1), (1000, 1000), (999, 1000), (7, 13)]


class WholeNumbers(unittest.TestCase):
    def test_last(self):
        self.assertEqual(LAST, 10 ** 30)
        self.assertIs(type(LAST), int)

    def test_ints_are_whole_numbers(self):
        for thing in WHOLES:
            with self.subTest(thing):
                self.assertIs(is_whole(thing), True)

    def test_other_things_are_none(self):
        for thing in others() + TEXTS:
            with self.subTest(kind=type(thing).__name__):
                self.assertIs(is_whole(thing), False)

    def test_truths_are_none(self):
        for thing in (True, False):
            self.assertIs(is_whole(thing), False)
            self.assertIs(is_number(thing), False)


class Numbers(unittest.TestCase):
    def test_from_0_to_last(self):
        for thing in (0, 1, 2, 31, 1000, 10 ** 12, 2 ** 64, LAST - 1, LAST):
            with self.subTest(thing):
                self.assertIs(is_number(thing), True)

    def test_none_beyond(self):
        for thing in (-1, -2, -LAST, LAST + 1, LAST + 2, LAST * 10, 10 ** 400):
            with self.subTest(thing):
                self.assertIs(is_number(thing), False)

    def test_other_things_are_none(self):
        for thing in others() + TEXTS:
            with self.subTest(kind=type(thing).__name__):
                self.assertIs(is_number(thing), False)


class Names(unittest.TestCase):
    def test_each_small_letter_at_each_place(self):
        for letter in string.ascii_lowercase:
            for length in range(1, 9):
                self.assertIs(is_name(letter * length), True)

    def test_names(self):
        for thing in ("a", "z", "ann", "bob", "abcdefgh", "stuvwxyz", "none", "i", "l", "o", "u"):
            with self.subTest(thing):
                self.assertIs(is_name(thing), True)

    def test_too_short_and_too_long(self):
        for thing in ("", "abcdefghi", "aaaaaaaaa", "a" * 16, "a" * 100000):
            self.assertIs(is_name(thing), False)

    def test_any_other_sign_ahead_between_or_behind(self):
        for sign in [chr(code) for code in range(128)] + ["\u00e9", "\u00df", "\u0430", "\uff41", "\u00aa"]:
            if sign in string.ascii_lowercase:
                continue
            for thing in (sign, sign + "ann", "an" + sign + "n", "ann" + sign):
                with self.subTest(thing):
                    self.assertIs(is_name(thing), False)

    def test_great_letters_figures_blanks_and_line_ends(self):
        for thing in ("A", "Ann", "anN", "ann1", "1", " ann", "ann ", "an n", "ann\n", "\nann", "abcdefgh\n", "\n"):
            with self.subTest(thing):
                self.assertIs(is_name(thing), False)

    def test_other_things_are_none(self):
        for thing in others() + WHOLES:
            with self.subTest(kind=type(thing).__name__):
                self.assertIs(is_name(thing), False)

    def test_lists_of_letters_are_none(self):
        for thing in (["a"], ("a", "b"), {"a": "b"}, {"a"}, [["a"]]):
            self.assertIs(is_name(thing), False)


class NothingIsChanged(unittest.TestCase):
    def test_what_is_handed_in_stays_as_it_was(self):
        for thing in ([1, [2]], {"a": [1]}, (1, [2]), ["a"], {1, 2}):
            before = copy.deepcopy(thing)
            for ask in (is_whole, is_number, is_name):
                ask(thing)
            with self.assertRaises(BadShape):
                Shape(thing, thing)
            self.assertEqual(thing, before)

    def test_asked_again_the_answer_is_the_same(self):
        for thing in WHOLES + TEXTS + [None, True, [1], (1,)]:
            for ask in (is_whole, is_number, is_name):
                self.assertIs(ask(thing), ask(thing))

    def test_a_shape_stays_as_it_was(self):
        shape = Shape(3, 2)
        for again in range(3):
            self.assertEqual(mark_of(shape, 5, 1, 2), 35)
            self.assertEqual(parts_of(shape, 35), (5, 1, 2))
            self.assertEqual(pair_of(shape), (3, 2))
            self.assertEqual((shape.counts, shape.slots), (3, 2))

    def test_shapes_are_apart_from_one_another(self):
        one = Shape(3, 2)
        other = Shape(5, 7)
        self.assertEqual((pair_of(one), pair_of(other)), ((3, 2), (5, 7)))
        self.assertEqual(parts_of(one, 35), (5, 1, 2))


class Shapes(unittest.TestCase):
    def test_counts_and_slots_from_1_to_1000(self):
        for counts, slots in itertools.product((1, 2, 500, 999, 1000), repeat=2):
            shape = Shape(counts, slots)
            self.assertEqual((shape.counts, shape.slots), (counts, slots))
            self.assertEqual(pair_of(shape), (counts, slots))
            self.assertIs(type(pair_of(shape)), tuple)

    def test_arguments_by_name(self):
        self.assertEqual(pair_of(Shape(slots=4, counts=9)), (9, 4))

    def refuse(self, counts, slots):
        with self.assertRaises(BadShape) as taken:
            Shape(counts, slots)
        self.assertIs(type(taken.exception), BadShape)
        self.assertIsInstance(taken.exception, RiseError)

    def test_numbers_beyond_are_refused(self):
        for wrong in (0, -1, -1000, 1001, 1002, 10 ** 6, LAST, LAST + 1, 10 ** 5000):
            for right in (1, 2, 1000):
                self.refuse(wrong, right)
                self.refuse(right, wrong)
            self.refuse(wrong, wrong)

    def test_other_things_are_refused(self):
        for wrong in others() + TEXTS:
            with self.subTest(kind=type(wrong).__name__):
                self.refuse(wrong, 1)
                self.refuse(1000, wrong)
                self.refuse(wrong, wrong)
                self.refuse(0, wrong)
                self.refuse(wrong, 0)


class Marks(unittest.TestCase):
    def test_some_marks(self):
        self.assertEqual(mark_of(Shape(3, 2), 0, 0, 0), 0)
        self.assertEqual(mark_of(Shape(3, 2), 0, 0, 2), 2)
        self.assertEqual(mark_of(Shape(3, 2), 0, 1, 0), 3)
        self.assertEqual(mark_of(Shape(3, 2), 1, 0, 0), 6)
        self.assertEqual(mark_of(Shape(3, 2), 5, 1, 2), 35)
        self.assertEqual(mark_of(Shape(1, 1), 17, 0, 0), 17)
        self.assertEqual(mark_of(Shape(1000, 1000), 1, 999, 999), 1999999)
        self.assertEqual(mark_of(Shape(1000, 1000), LAST, 999, 999), 10 ** 36 + 999999)

    def test_the_formula_and_back_at_the_edges(self):
        for counts, slots in SHAPES:
            shape = Shape(counts, slots)
            for moment in (0, 1, 2, 31, 10 ** 12, LAST - 1, LAST):
                for slot, count in itertools.product((0, slots // 2, slots - 1), (0, counts // 2, counts - 1)):
                    mark = mark_of(shape, moment, slot, count)
                    with self.subTest(counts=counts, slots=slots, moment=moment, slot=slot, count=count):
                        self.assertEqual(mark, (moment * slots + slot) * counts + count)
                        self.assertIs(type(mark), int)
                        self.assertEqual(parts_of(shape, mark), (moment, slot, count))

    def test_all_parts_in_order_have_the_marks_in_order(self):
        for counts, slots in ((1, 1), (3, 2), (2, 3), (1, 4), (5, 1)):
            shape = Shape(counts, slots)
            parts = list(itertools.product(range(4), range(slots), range(counts)))
            marks = [mark_of(shape, moment, slot, count) for moment, slot, count in parts]
            self.assertEqual(marks, list(range(len(parts))))
            self.assertEqual([parts_of(shape, mark) for mark in marks], parts)


class Parts(unittest.TestCase):
    def test_a_tuple_of_whole_numbers(self):
        parts = parts_of(Shape(3, 2), 35)
        self.assertIs(type(parts), tuple)
        self.assertEqual([type(part) for part in parts], [int, int, int])

    def test_the_moment_may_be_above_last(self):
        for counts, slots in SHAPES:
            shape = Shape(counts, slots)
            for moment in (LAST + 1, LAST * 10, 10 ** 400):
                for slot, count in ((0, 0), (slots - 1, 0), (0, counts - 1), (slots - 1, counts - 1)):
                    mark = (moment * slots + slot) * counts + count
                    self.assertEqual(parts_of(shape, mark), (moment, slot, count))

    def test_slot_and_count_stay_within_the_shape(self):
        for counts, slots in SHAPES:
            shape = Shape(counts, slots)
            for mark in list(range(40)) + [counts * slots + k for k in (-1, 0, 1)] + [10 ** 50 + k for k in range(40)]:
                moment, slot, count = parts_of(shape, mark)
                self.assertTrue(moment >= 0 and 0 <= slot < slots and 0 <= count < counts)
                self.assertEqual((moment * slots + slot) * counts + count, mark)

    def test_of_two_marks_the_one_is_less_where_its_parts_are_less(self):
        for counts, slots in SHAPES:
            shape = Shape(counts, slots)
            marks = list(range(20)) + [counts * slots * 3 + k for k in range(-2, 3)] + [LAST, LAST + 1, 10 ** 37]
            for one, other in itertools.product(marks, repeat=2):
                self.assertEqual(parts_of(shape, one) < parts_of(shape, other), one < other)
                self.assertEqual(parts_of(shape, one) == parts_of(shape, other), one == other)


if __name__ == "__main__":
    unittest.main()
