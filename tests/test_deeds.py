"""Point 61, and the interface of risemarks.deeds."""

import itertools
import unittest

from odd_things import Stubborn, Yielding, others
from risemarks.deeds import is_deed, names_of
from risemarks.shapes import LAST

FORMS = [
    ("ask", "ann"), ("carry", 1), ("write", "ann", 0), ("make", "ann", 0), ("news", "ann", "bob"), ("back", "ann"),
    ("fall", "ann"), ("rise", "ann"),
]
DEEDS = FORMS + [
    ("ask", "a"), ("ask", "abcdefgh"), ("ask", "ask"), ("carry", 2), ("carry", LAST), ("carry", LAST + 1),
    ("carry", 10 ** 400), ("write", "zed", LAST), ("make", "zed", LAST), ("make", "make", LAST - 1), ("write", "a", 1),
    ("news", "ann", "ann"), ("news", "carry", "abcdefgh"), ("back", "back"), ("fall", "z"), ("rise", "fall"),
]
NO_NAMES = ["", "abcdefghi", "Ann", "aNn", "ann1", "an n", " ann", "ann ", "ann\n", "an_n", "an-n", "\xe4nn", 0, 1]


def put(deed, place, thing):
    return deed[:place] + (thing,) + deed[place + 1:]


class IsDeed(unittest.TestCase):
    def no_deed(self, thing):
        self.assertIs(is_deed(thing), False, repr(thing))

    def test_the_eight_forms(self):
        for deed in DEEDS:
            self.assertIs(is_deed(deed), True, repr(deed))

    def test_things_of_other_kinds(self):
        for thing in others() + [0, 1, -1, "", "ask", "ask ann", "carry 1"]:
            self.no_deed(thing)

    def test_a_list_or_another_thing_for_the_tuple(self):
        for deed in DEEDS:
            self.no_deed(list(deed))
            self.no_deed((deed,))
            self.no_deed([deed])
            self.no_deed(dict(enumerate(deed)))
            self.no_deed(iter(deed))

    def test_one_thing_too_few_or_too_many(self):
        for deed in DEEDS:
            for place in range(len(deed)):
                self.no_deed(deed[:place] + deed[place + 1:])
                self.no_deed(deed[:place])
            for place, thing in itertools.product(range(len(deed) + 1), [0, 1, "ann", None, (0, 0, 1), ""]):
                # News of one name more at its end are no ask, and so on: no form is another one with a thing more.
                self.no_deed(deed[:place] + (thing,) + deed[place:])

    def test_another_first_word(self):
        for deed in DEEDS:
            for word in ["", "Ask", "ASK", "asks", "as", "ask ", " ask", "take", "hear", "tell", "grant", "lend", 0, 1]:
                self.no_deed(put(deed, 0, word))
            for word in others():
                self.no_deed(put(deed, 0, word))

    def test_the_words_put_otherwise(self):
        alone = ("ask", "back", "fall", "rise")
        read = ("write", "make")
        for one, other in itertools.permutations(FORMS, 2):
            good = one[0] in alone and other[0] in alone or one[0] in read and other[0] in read
            self.assertIs(is_deed(put(one, 0, other[0])), good)

    def test_things_that_are_no_names(self):
        for deed in FORMS:
            for place, part in enumerate(deed):
                if place > 0 and isinstance(part, str):
                    for thing in NO_NAMES + others():
                        self.no_deed(put(deed, place, thing))

    def test_things_that_are_no_numbers_from_1_on(self):
        for thing in [0, -1, -LAST, "", "1", "ann"] + others():
            self.no_deed(("carry", thing))

    def test_things_that_are_no_readings(self):
        for word in ("write", "make"):
            self.assertIs(is_deed((word, "ann", LAST)), True)
            for thing in [-1, LAST + 1, 10 ** 400, -LAST, "", "0", "ann"] + others():
                self.no_deed((word, "ann", thing))

    def test_stubborn_and_yielding_things_at_each_place(self):
        for deed in DEEDS:
            for place in range(len(deed)):
                self.no_deed(put(deed, place, Stubborn()))
                self.no_deed(put(deed, place, Yielding()))

    def test_asked_again(self):
        thing = ["ask", "ann"]
        for again in range(3):
            self.assertIs(is_deed(("ask", "ann")), True)
            self.assertIs(is_deed(thing), False)
        self.assertEqual(thing, ["ask", "ann"])


class NamesOf(unittest.TestCase):
    def test_of_each_form(self):
        for deed in FORMS:
            expected = {"carry": [], "news": ["ann", "bob"]}.get(deed[0], ["ann"])
            self.assertEqual(names_of(deed), expected)

    def test_in_the_deeds_order_and_twice(self):
        self.assertEqual(names_of(("news", "bob", "ann")), ["bob", "ann"])
        self.assertEqual(names_of(("news", "ann", "ann")), ["ann", "ann"])

    def test_names_like_words(self):
        self.assertEqual(names_of(("news", "news", "carry")), ["news", "carry"])
        self.assertEqual(names_of(("make", "make", 3)), ["make"])

    def test_the_list_is_the_askers_own(self):
        deed = ("news", "ann", "bob")
        names_of(deed).append("cid")
        self.assertEqual(names_of(deed), ["ann", "bob"])


if __name__ == "__main__":
    unittest.main()
