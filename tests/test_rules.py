"""Points 7 and 31, and the interface of risemarks.rules."""

import copy
import itertools
import unittest

from odd_things import others
from risemarks.errors import BadSettings, RiseError
from risemarks.rules import RULES, Settings, has_rule
from risemarks.shapes import LAST, Shape, pair_of

FIVE = ("ahead", "apart", "ends", "once", "spoken")
MOST = 10 ** 12
TEXTS = ["", "0", "1", "far", "ahead", "aheadapart", "all", "none"]


def settings_with(**changes):
    values = {"shape": Shape(3, 2), "far": 4, "room": 5, "term": 6, "rules": None}
    values.update(changes)
    return Settings(values["shape"], values["far"], values["room"], values["term"], values["rules"])


class Refusing(unittest.TestCase):
    def refuse(self, word, **changes):
        with self.assertRaises(BadSettings) as taken:
            settings_with(**changes)
        self.assertIs(type(taken.exception), BadSettings)
        self.assertIsInstance(taken.exception, RiseError)
        self.assertEqual(taken.exception.word, word)


class Fields(unittest.TestCase):
    def test_the_five_words(self):
        self.assertEqual(RULES, FIVE)
        self.assertIs(type(RULES), tuple)

    def test_the_fields(self):
        shape = Shape(3, 2)
        settings = Settings(shape, 4, 5, 6, ["once", "ahead"])
        self.assertIs(settings.shape, shape)
        self.assertEqual((settings.far, settings.room, settings.term), (4, 5, 6))
        self.assertEqual(settings.rules, ("ahead", "once"))

    def test_arguments_by_name(self):
        settings = Settings(rules=("ends",), term=6, room=5, far=4, shape=Shape(3, 2))
        self.assertEqual((settings.far, settings.room, settings.term, settings.rules), (4, 5, 6, ("ends",)))

    def test_without_rules_all_five_hold(self):
        self.assertEqual(Settings(Shape(1, 1), 0, 1, 1).rules, FIVE)
        self.assertEqual(Settings(Shape(1, 1), 0, 1, 1, None).rules, FIVE)


class Numbers(Refusing):
    def test_at_their_bounds(self):
        for far, room, term in itertools.product((0, 1, MOST), (1, 2, MOST), (1, 2, MOST)):
            settings = settings_with(far=far, room=room, term=term)
            self.assertEqual((settings.far, settings.room, settings.term), (far, room, term))

    def test_one_beyond(self):
        self.refuse("far", far=-1)
        self.refuse("room", room=0)
        self.refuse("term", term=0)
        for word in ("far", "room", "term"):
            for wrong in (MOST + 1, LAST, 10 ** 5000, -1, -MOST):
                with self.subTest(word):
                    self.refuse(word, **{word: wrong})

    def test_other_things(self):
        for thing in others() + TEXTS:
            for word in ("far", "room", "term"):
                with self.subTest(word, kind=type(thing).__name__):
                    self.refuse(word, **{word: thing})


class Rules(Refusing):
    def test_each_choice_in_each_order_as_a_list_and_as_a_tuple(self):
        for length in range(6):
            for words in itertools.permutations(FIVE, length):
                for rules in (words, list(words)):
                    told = settings_with(rules=rules).rules
                    self.assertEqual(told, tuple(sorted(words)))
                    self.assertIs(type(told), tuple)

    def test_none_of_them(self):
        self.assertEqual(settings_with(rules=[]).rules, ())
        self.assertEqual(settings_with(rules=()).rules, ())

    def test_a_word_twice(self):
        for word in FIVE:
            self.refuse("rules", rules=[word, word])
            self.refuse("rules", rules=(word, word))
        self.refuse("rules", rules=["ahead", "once", "ahead"])
        self.refuse("rules", rules=list(FIVE) + ["spoken"])
        self.refuse("rules", rules=FIVE * 2)

    def test_another_word(self):
        for word in ["", "Ahead", "AHEAD", "ahead ", " ahead", "ahead\n", "end", "endss", "all", "none", "far", "a"]:
            with self.subTest(word):
                self.refuse("rules", rules=[word])
                self.refuse("rules", rules=(word, "once"))
                self.refuse("rules", rules=["once", word])

    def test_things_of_other_kinds_where_a_word_could_stand(self):
        for thing in others() + [0, 1, -1, ["ahead"], ("ahead",), {"ahead": 1}]:
            with self.subTest(kind=type(thing).__name__):
                self.refuse("rules", rules=[thing])
                self.refuse("rules", rules=(thing,))
                self.refuse("rules", rules=["ahead", thing])
                self.refuse("rules", rules=[thing, thing])

    def test_things_of_other_kinds_where_rules_could_stand(self):
        emptied = [thing for thing in others() if thing is not None and type(thing) not in (list, tuple)]
        for thing in emptied + TEXTS + [0, 1, {"ahead": 1}, {"ahead"}, frozenset(FIVE), iter(FIVE)]:
            with self.subTest(kind=type(thing).__name__):
                self.refuse("rules", rules=thing)
        self.refuse("rules", rules=[["ahead"]])
        self.refuse("rules", rules=(("ahead", "once"),))


class Order(Refusing):
    def test_two_things_amiss_at_once(self):
        wrong = {"far": -1, "room": 0, "term": None, "rules": "ahead"}
        for one, other in itertools.combinations(["far", "room", "term", "rules"], 2):
            with self.subTest(one=one, other=other):
                self.refuse(one, **{one: wrong[one], other: wrong[other]})

    def test_all_amiss(self):
        for thing in (True, "x", {}, -1, 10 ** 13):
            self.refuse("far", far=thing, room=thing, term=thing, rules=thing)
            self.refuse("room", room=thing, term=thing, rules=thing)
            self.refuse("term", term=thing, rules=thing)
            self.refuse("rules", rules=thing)


class HasRule(unittest.TestCase):
    def test_a_rule_holds_where_its_word_stands_in_the_rules(self):
        for length in range(6):
            for rules in itertools.combinations(FIVE, length):
                settings = settings_with(rules=rules)
                for word in FIVE:
                    self.assertIs(has_rule(settings, word), word in rules)

    def test_all_hold_by_sound_settings(self):
        for word in FIVE:
            self.assertIs(has_rule(settings_with(), word), True)

    def test_other_texts(self):
        for word in ["", "a", "end", "aheads", "Ahead", "ahead ", "far", "none", "rules", "ahead+apart"]:
            with self.subTest(word):
                self.assertIs(has_rule(settings_with(), word), False)
                self.assertIs(has_rule(settings_with(rules=[]), word), False)


class NothingIsChanged(Refusing):
    def test_a_list_that_is_handed_in_stays_as_it_was_and_may_be_changed(self):
        rules = ["spoken", "ahead"]
        settings = settings_with(rules=rules)
        self.assertEqual(rules, ["spoken", "ahead"])
        rules.append("once")
        rules[0] = "ends"
        self.assertEqual(settings.rules, ("ahead", "spoken"))
        self.assertIs(has_rule(settings, "once"), False)
        self.assertIs(has_rule(settings, "spoken"), True)

    def test_what_is_refused_stays_as_it_was(self):
        for thing in (["ahead", "ahead"], ["x"], [["ahead"]], {"ahead": [1]}):
            before = copy.deepcopy(thing)
            self.refuse("rules", rules=thing)
            self.refuse("far", far=thing)
            self.assertEqual(thing, before)

    def test_settings_are_apart_from_one_another(self):
        one = settings_with(rules=["once"])
        other = settings_with(far=9)
        self.assertEqual((one.far, one.rules), (4, ("once",)))
        self.assertEqual((other.far, other.rules), (9, FIVE))
        self.assertEqual(pair_of(one.shape), (3, 2))
        self.assertEqual(RULES, FIVE)


if __name__ == "__main__":
    unittest.main()
