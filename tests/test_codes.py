"""Points 13 and 14, and the interface of risemarks.codes."""

import copy
import itertools
import unittest

from odd_things import others
from risemarks.codes import SIGNS, read, shown
from risemarks.errors import NoCode, RiseError
from risemarks.shapes import LAST, Shape, mark_of

GREATEST = 32 ** 31 - 1


def some_marks():
    """The marks about each power of 32, and some between, rising."""
    marks = list(range(70))
    for power in range(2, 31):
        marks.extend([32 ** power + k for k in (-2, -1, 0, 1, 31, 32)])
        marks.append(32 ** power * 17 + 12345678901234567890 % 32 ** power)
    marks.extend([LAST, LAST + 1, 10 ** 36 + 999999, GREATEST - 1, GREATEST])
    return sorted(set(marks))


class Signs(unittest.TestCase):
    def test_the_signs(self):
        self.assertEqual(SIGNS, "0123456789abcdefghjkmnpqrstvwxyz")
        self.assertEqual(len(SIGNS), 32)

    def test_they_rise(self):
        self.assertEqual(list(SIGNS), sorted(set(SIGNS)))


class Shown(unittest.TestCase):
    def test_some_texts(self):
        for mark, text in [
            (0, "10"), (1, "11"), (9, "19"), (10, "1a"), (17, "1h"), (18, "1j"), (20, "1m"), (21, "1n"), (22, "1p"),
            (26, "1t"), (27, "1v"), (31, "1z"), (32, "210"), (33, "211"), (63, "21z"), (64, "220"), (1023, "2zz"),
            (1024, "3100"), (32 ** 9, "a1000000000"), (32 ** 30, "z1" + "0" * 30), (GREATEST, "z" * 32),
        ]:
            with self.subTest(mark):
                self.assertEqual(shown(mark), text)
                self.assertIs(type(shown(mark)), str)

    def test_each_sign_stands_for_its_place(self):
        for place, sign in enumerate(SIGNS):
            self.assertEqual(shown(place), "1" + sign)
            self.assertEqual(shown(5 * 1024 + place * 32 + 7), "35" + sign + "7")

    def test_how_many_digits_then_the_digits(self):
        for mark in some_marks():
            text = shown(mark)
            digits = text[1:]
            self.assertEqual(SIGNS[len(digits)], text[0])
            self.assertEqual(sum(SIGNS.index(sign) * 32 ** k for k, sign in enumerate(reversed(digits))), mark)
            self.assertTrue(digits == "0" or digits[0] != "0")

    def test_the_greatest_mark_of_the_greatest_shape(self):
        mark = mark_of(Shape(1000, 1000), LAST, 999, 999)
        self.assertEqual(read(shown(mark)), mark)


class Order(unittest.TestCase):
    def test_of_two_marks_the_one_is_less_where_its_text_is_less(self):
        marks = some_marks()
        texts = [shown(mark) for mark in marks]
        self.assertEqual(texts, sorted(texts))
        self.assertEqual(len(set(texts)), len(marks))

    def test_each_two_of_the_first(self):
        for one, other in itertools.product(list(range(40)) + [1023, 1024, 32767, 32768], repeat=2):
            self.assertEqual(shown(one) < shown(other), one < other)
            self.assertEqual(shown(one) == shown(other), one == other)


class Read(unittest.TestCase):
    def refuse(self, thing):
        with self.assertRaises(NoCode) as taken:
            read(thing)
        self.assertIs(type(taken.exception), NoCode)
        self.assertIsInstance(taken.exception, RiseError)

    def test_each_text_is_read_to_its_mark_again(self):
        for mark in list(range(3000)) + some_marks():
            self.assertEqual(read(shown(mark)), mark)
            self.assertIs(type(read(shown(mark))), int)

    def test_some_texts(self):
        for text, mark in [("10", 0), ("11", 1), ("1z", 31), ("210", 32), ("2zz", 1023), ("3100", 1024),
                           ("z1" + "0" * 30, 32 ** 30), ("z" * 32, GREATEST)]:
            self.assertEqual(read(text), mark)

    def test_of_all_short_texts_just_those_that_are_shown_are_read(self):
        right = {shown(mark): mark for mark in range(1024)}
        signs = SIGNS[:4] + "hjz" + "ilouAZ \n-_"
        for length in range(5):
            for text in map("".join, itertools.product(signs, repeat=length)):
                if text in right:
                    self.assertEqual(read(text), right[text])
                elif length < 4:
                    self.refuse(text)
                elif text[0] == "3" and text[1] != "0" and set(text) <= set(SIGNS):
                    self.assertEqual(shown(read(text)), text)
                else:
                    self.refuse(text)

    def test_too_few_signs(self):
        for text in ("", "0", "1", "2", "z", "21", "2z", "310", "z" * 31, "z1" + "0" * 29):
            with self.subTest(text):
                self.refuse(text)

    def test_too_many_signs(self):
        for text in ("100", "110", "1zz", "2100", "31000", "z" * 33, "z1" + "0" * 31, "z" * 100000):
            self.refuse(text)

    def test_another_first_sign(self):
        for first in SIGNS:
            if first != "1":
                self.refuse(first + "5")
            if first != "2":
                self.refuse(first + "10")
            if first != "z":
                self.refuse(first + "1" + "0" * 30)

    def test_a_0_ahead(self):
        for text in ("200", "201", "20z", "3000", "3010", "301z", "z0" + "z" * 30, "00", "000"):
            with self.subTest(text):
                self.refuse(text)

    def test_a_sign_that_is_none_of_the_32(self):
        for sign in [chr(code) for code in range(128)] + ["\u0661", "\uff11", "\u00e9", "\u00b2"]:
            if sign in SIGNS:
                continue
            for text in (sign, "1" + sign, sign + "1", "2" + sign + "0", "21" + sign, "z" + "1" * 30 + sign):
                with self.subTest(text):
                    self.refuse(text)

    def test_line_ends_and_blanks(self):
        for text in ("10\n", "1z\n", "210\n", "\n10", "10 ", " 10", "1 0", "2 10", "1\n", "21\n", "\n", " "):
            with self.subTest(text):
                self.refuse(text)

    def test_great_letters(self):
        for text in ("1A", "1Z", "2A0", "2ZZ", "A1000000000", "Z" * 32):
            self.refuse(text)

    def test_things_that_are_no_texts(self):
        for thing in others() + [0, 1, 10, 31, 210, -1, LAST, ["1", "0"], ("1", "0"), {"10": 0}, ["10"]]:
            with self.subTest(kind=type(thing).__name__):
                self.refuse(thing)

    def test_what_is_refused_is_not_changed(self):
        for thing in (["1", "0"], {"1": "0"}, [[1]]):
            before = copy.deepcopy(thing)
            self.refuse(thing)
            self.assertEqual(thing, before)

    def test_asked_again_the_answer_is_the_same(self):
        for again in range(3):
            self.assertEqual((shown(32), read("210")), ("210", 32))
            self.refuse("2100")


if __name__ == "__main__":
    unittest.main()
