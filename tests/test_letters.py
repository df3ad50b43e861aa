"""Point 51, and the interface of risemarks.letters."""

import itertools
import unittest

from odd_things import Stubborn, Yielding, others
from risemarks.letters import for_whom, is_letter
from risemarks.shapes import LAST

ASK = ("ask", "ann", 0)
GRANT = ("grant", "ann", 1, (0, 0, 1))
BACK = ("back", "ann", 1, 0)
NEWS = ("news", "ann", "bob", 0)
LETTERS = [
    ASK, GRANT, BACK, NEWS,
    ("ask", "a", 7), ("ask", "abcdefgh", LAST), ("ask", "z", LAST + 1), ("ask", "ask", 10 ** 400),
    ("grant", "zed", 9, (999, 5, 6)), ("grant", "bob", LAST + 1, (10 ** 40, LAST, LAST + 1)),
    ("grant", "bob", 2, (1000, 0, 10 ** 400)), ("grant", "grant", 1, (0, 4, 90)),
    ("back", "bob", 3, LAST), ("back", "bob", LAST + 1, LAST + 1), ("back", "back", 1, 5),
    ("news", "ann", "ann", 3), ("news", "news", "lender", LAST + 1), ("news", "a", "abcdefgh", 10 ** 400),
]
NO_NAMES = ["", "abcdefghi", "Ann", "aNn", "ann1", "an n", " ann", "ann ", "ann\n", "an_n", "an-n", "\xe4nn", 0, 1]
NO_AREAS = [
    (0, 0, 0), (0, 5, 5), (0, 6, 5), (0, 1, 0), (-1, 0, 1), (0, -1, 1), (0, -2, -1), (0, 1), (0, 0, 1, 2), (0,),
    [0, 0, 1], "001", 1, 0, {0: 0, 1: 0, 2: 1}, ("0", 0, 1), (0, "0", 1), (0, 0, "1"), (True, 0, 1), (0, False, 1),
    (0, 0, True), (None, 0, 1), (0, None, 1), (0, 0, None), (0.0, 0, 1), (0, 0, 1.0), ((0, 0, 1),),
]


def put(letter, place, thing):
    return letter[:place] + (thing,) + letter[place + 1:]


class IsLetter(unittest.TestCase):
    def no_letter(self, thing):
        self.assertIs(is_letter(thing), False, repr(thing))

    def test_the_four_forms(self):
        for letter in LETTERS:
            self.assertIs(is_letter(letter), True, repr(letter))

    def test_things_of_other_kinds(self):
        for thing in others() + [0, 1, -1, "", "ask", "ask ann 0", "news"]:
            self.no_letter(thing)

    def test_a_list_or_another_thing_for_the_tuple(self):
        for letter in LETTERS:
            self.no_letter(list(letter))
            self.no_letter((letter,))
            self.no_letter([letter])
            self.no_letter(dict(enumerate(letter)))
            self.no_letter(iter(letter))

    def test_one_thing_too_few_or_too_many(self):
        for letter in LETTERS:
            for place in range(len(letter)):
                self.no_letter(letter[:place] + letter[place + 1:])
                self.no_letter(letter[:place])
            for place, thing in itertools.product(range(len(letter) + 1), [0, 1, "ann", "ask", None, (0, 0, 1)]):
                self.no_letter(letter[:place] + (thing,) + letter[place:])

    def test_another_first_word(self):
        for letter in LETTERS:
            for word in ["", "Ask", "ASK", "asks", "as", "ask ", " ask", "take", "make", "grants", "lend", 0, 1]:
                self.no_letter(put(letter, 0, word))
            for word in others():
                self.no_letter(put(letter, 0, word))

    def test_the_words_put_otherwise(self):
        forms = {"ask": ASK, "grant": GRANT, "back": BACK, "news": NEWS}
        for word, other in itertools.permutations(forms, 2):
            self.no_letter(put(forms[word], 0, other))

    def test_things_that_are_no_names(self):
        for letter, place in [(ASK, 1), (GRANT, 1), (BACK, 1), (NEWS, 1), (NEWS, 2)]:
            for thing in NO_NAMES + others():
                self.no_letter(put(letter, place, thing))

    def test_things_that_are_no_numbers_from_1_on(self):
        for letter in (GRANT, BACK):
            for thing in [0, -1, -LAST, "", "1", "one"] + others():
                self.no_letter(put(letter, 2, thing))

    def test_things_that_are_no_numbers_from_0_on(self):
        for letter, place in [(ASK, 2), (BACK, 3), (NEWS, 3)]:
            for thing in [-1, -LAST, "", "0", "ann"] + others():
                self.no_letter(put(letter, place, thing))

    def test_things_that_are_no_areas(self):
        for thing in NO_AREAS + others():
            self.no_letter(put(GRANT, 3, thing))
        for place, thing in itertools.product(range(3), others()):
            self.no_letter(put(GRANT, 3, put((0, 0, 1), place, thing)))

    def test_stubborn_and_yielding_things_at_each_place(self):
        for letter in LETTERS:
            for place in range(len(letter)):
                self.no_letter(put(letter, place, Stubborn()))
                self.no_letter(put(letter, place, Yielding()))

    def test_asked_again(self):
        thing = ["ask", "ann", 0]
        for again in range(3):
            self.assertIs(is_letter(ASK), True)
            self.assertIs(is_letter(thing), False)
        self.assertEqual(thing, ["ask", "ann", 0])


class ForWhom(unittest.TestCase):
    def test_a_grant_and_news_are_for_a_hand(self):
        self.assertEqual(for_whom(("grant", "ann", 1, (0, 0, 1))), "ann")
        self.assertEqual(for_whom(("grant", "bob", 7, (3, 5, 9))), "bob")
        self.assertEqual(for_whom(("news", "ann", "bob", 0)), "bob")
        self.assertEqual(for_whom(("news", "bob", "ann", 9)), "ann")
        self.assertEqual(for_whom(("news", "cid", "cid", 9)), "cid")

    def test_an_ask_and_a_back_are_for_the_lender(self):
        self.assertEqual(for_whom(("ask", "ann", 0)), "")
        self.assertEqual(for_whom(("back", "ann", 1, 0)), "")

    def test_names_like_words(self):
        self.assertEqual(for_whom(("ask", "grant", 0)), "")
        self.assertEqual(for_whom(("back", "news", 1, 0)), "")
        self.assertEqual(for_whom(("grant", "ask", 1, (0, 0, 1))), "ask")
        self.assertEqual(for_whom(("news", "grant", "back", 1)), "back")


if __name__ == "__main__":
    unittest.main()
