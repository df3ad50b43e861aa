"""Points 52 to 54, points 2 and 3 as far as a post goes, and the interface of risemarks.post."""

import itertools
import random
import unittest

from risemarks.errors import Down, NoLetter, NoRoom
from risemarks.hands import Hand
from risemarks.holders import meeting
from risemarks.lender import Lender
from risemarks.letters import for_whom, is_letter
from risemarks.post import Post
from risemarks.rules import RULES, Settings
from risemarks.shapes import LAST, Shape

# All five, none, and each left out alone.
RULE_SETS = [RULES, ()] + [tuple(word for word in RULES if word != left) for left in RULES]
LETTERS = [("ask", "ann", 3), ("grant", "ann", 1, (0, 3, 13)), ("back", "ann", 1, 8), ("news", "ann", "bob", 8)]


def settings_of(rules=None, slots=2):
    return Settings(Shape(3, slots), 5, 4, 10, rules)


def state_of(hand, lender):
    return (hand.place(), hand.note(), lender.grants())


class Testing(unittest.TestCase):
    def begin(self, rules=None, slots=2):
        settings = settings_of(rules, slots)
        self.post = Post()
        self.hand = Hand("ann", settings)
        self.lender = Lender(settings)

    def carry(self, number):
        """The letter is handed to whom it is for alone."""
        if for_whom(self.post.letter(number)):
            return self.post.carry(number, self.hand, None)
        return self.post.carry(number, None, self.lender)

    def changes_nothing(self, number, told):
        before = (state_of(self.hand, self.lender), self.post.sent())
        self.assertIs(self.carry(number), told)
        self.assertEqual((state_of(self.hand, self.lender), self.post.sent()), before)

    def refuse(self, kind, ask):
        before = (state_of(self.hand, self.lender), self.post.sent())
        with self.assertRaises(kind) as taken:
            ask()
        self.assertIs(type(taken.exception), kind)
        self.assertEqual((state_of(self.hand, self.lender), self.post.sent()), before)
        return taken.exception


class Sending(Testing):
    def test_numbers_from_1_on_in_their_order(self):
        post = Post()
        self.assertEqual(post.sent(), [])
        for number, letter in enumerate(LETTERS, start=1):
            self.assertEqual(post.send(letter), number)
            self.assertEqual(post.sent(), LETTERS[:number])
        for number, letter in enumerate(LETTERS, start=1):
            self.assertEqual(post.letter(number), letter)

    def test_a_letter_sent_again_has_a_number_of_its_own(self):
        post = Post()
        self.assertEqual([post.send(LETTERS[0]) for again in range(3)], [1, 2, 3])
        self.assertEqual(post.send(LETTERS[3]), 4)
        self.assertEqual(post.send(LETTERS[0]), 5)
        self.assertEqual(post.sent(), [LETTERS[0]] * 3 + [LETTERS[3], LETTERS[0]])
        self.assertEqual([post.letter(number) for number in range(1, 6)], post.sent())

    def test_a_number_that_none_has(self):
        post = Post()
        for count in range(4):
            for number in (0, -1, -2, -count, count + 1, count + 2, LAST, 10 ** 400, -10 ** 400):
                if 0 < number <= count:
                    continue
                for again in range(2):
                    with self.assertRaises(NoLetter) as taken:
                        post.letter(number)
                    self.assertIs(type(taken.exception), NoLetter)
                    self.assertEqual(taken.exception.number, number)
                self.assertEqual(len(post.sent()), count)
            post.send(LETTERS[count])

    def test_arguments_by_name(self):
        post = Post()
        self.assertEqual(post.send(letter=LETTERS[0]), 1)
        self.assertEqual(post.letter(number=1), LETTERS[0])
        told = post.carry(number=1, hand=None, lender=Lender(settings_of()))
        self.assertEqual(told, ("grant", "ann", 1, (0, 3, 13)))


class Reading(Testing):
    def test_an_ask_tells_the_letter_of_the_grant(self):
        for rules in RULE_SETS:
            self.begin(rules)
            number = self.post.send(("ask", "bob", 7))
            told = self.carry(number)
            self.assertEqual(told, ("grant", "bob", 1, (0, 7, 17)))
            self.assertIs(is_letter(told), True)
            self.assertEqual(self.lender.grants(), [(1, "bob", (0, 7, 17))])
            # It is not sent by this.
            self.assertEqual(self.post.sent(), [("ask", "bob", 7)])

    def test_an_ask_that_is_read_twice_lends_twice(self):
        for rules in RULE_SETS:
            self.begin(rules, slots=1)
            self.post.send(("ask", "ann", 7))
            tolds = [self.carry(1) for again in range(3)]
            firsts = [7, 17, 27] if "apart" in rules else [7, 7, 7]
            self.assertEqual(tolds, [("grant", "ann", k + 1, (0, first, first + 10)) for k, first in enumerate(firsts)])
            self.assertEqual(meeting(self.lender.grants()) is None, "apart" in rules)

    def test_a_grant_is_taken(self):
        for rules in RULE_SETS:
            self.begin(rules)
            self.post.send(("grant", "ann", 4, (1, 3, 13)))
            self.assertIs(self.carry(1), True)
            self.assertEqual(self.hand.note(), [("took", 4, (1, 3, 13))])
            self.assertEqual(self.hand.area(), (1, 3, 13))

    def test_a_grant_that_is_read_again(self):
        for rules in RULE_SETS:
            self.begin(rules)
            self.post.send(("grant", "ann", 4, (1, 3, 13)))
            self.carry(1)
            self.hand.write(3)
            self.hand.make(3)
            if "once" in rules:
                self.changes_nothing(1, False)
                self.changes_nothing(1, False)
            else:
                self.assertIs(self.carry(1), True)
                self.assertEqual(self.hand.note()[-1], ("took", 4, (1, 3, 13)))
                self.assertEqual(self.hand.place(), (4, 0))

    def test_a_grant_that_is_read_behind_a_greater_one(self):
        for rules in RULE_SETS:
            self.begin(rules)
            self.post.send(("grant", "ann", 2, (0, 0, 10)))
            self.post.send(("grant", "ann", 5, (1, 3, 13)))
            self.assertIs(self.carry(2), True)
            if "once" in rules:
                self.changes_nothing(1, False)
                self.assertEqual(self.hand.area(), (1, 3, 13))
            else:
                self.assertIs(self.carry(1), True)
                self.assertEqual(self.hand.area(), (0, 0, 10))

    def test_a_back_is_freed_and_not_freed_again(self):
        for rules in RULE_SETS:
            self.begin(rules)
            self.lender.lend("ann", 3)
            self.post.send(("back", "ann", 1, 8))
            self.assertIs(self.carry(1), True)
            self.assertEqual(self.lender.grants(), [(1, "ann", (0, 3, 8))])
            self.changes_nothing(1, False)
            self.changes_nothing(1, False)

    def test_a_back_that_is_read_behind_a_later_grant_of_its_slot(self):
        for rules in RULE_SETS:
            self.begin(rules, slots=1)
            self.lender.lend("ann", 3)
            self.lender.lend("bob", 3)
            self.post.send(("back", "ann", 1, 8))
            self.changes_nothing(1, False)

    def test_a_back_of_no_grant_or_out_of_its_area(self):
        for rules in RULE_SETS:
            self.begin(rules)
            self.lender.lend("ann", 3)
            for letter in [("back", "ann", 2, 8)] + [("back", "ann", 1, end) for end in (2, 13, LAST)]:
                self.changes_nothing(self.post.send(letter), False)

    def test_news_are_heard(self):
        for rules in RULE_SETS:
            self.begin(rules)
            self.post.send(("news", "bob", "ann", 8))
            self.assertIsNone(self.carry(1))
            self.assertEqual(self.hand.place(), (8, 0))
            self.assertEqual(self.hand.note(), [("heard", 8)] if "spoken" in rules else [])

    def test_news_that_are_heard_again_and_behind_greater_ones(self):
        for rules in RULE_SETS:
            self.begin(rules)
            for bound in (8, 5, 0, 9):
                self.post.send(("news", "bob", "ann", bound))
            self.carry(1)
            for number in (1, 2, 3):
                self.changes_nothing(number, None)
            self.assertIsNone(self.carry(4))
            self.assertEqual(self.hand.place(), (9, 0))
            for number in (4, 1, 2, 3):
                self.changes_nothing(number, None)

    def test_without_spoken_news_heard_again_behind_a_fall_raise_the_place_anew(self):
        for rules in RULE_SETS:
            self.begin(rules)
            self.post.send(("news", "bob", "ann", 8))
            self.carry(1)
            self.hand.fall()
            self.hand.rise()
            self.assertEqual(self.hand.place(), (8, 0) if "spoken" in rules else (0, 0))
            self.carry(1)
            self.assertEqual(self.hand.place(), (8, 0))

    def test_reading_does_not_take_a_letter_out(self):
        for rules in RULE_SETS:
            self.begin(rules)
            for letter in LETTERS:
                self.post.send(letter)
            for number in (1, 2, 3, 4) * 3:
                self.carry(number)
                self.assertEqual(self.post.sent(), LETTERS)
                self.assertEqual(self.post.letter(number), LETTERS[number - 1])

    def test_a_letter_that_was_never_read_changes_nothing(self):
        for rules in RULE_SETS:
            self.begin(rules)
            before = state_of(self.hand, self.lender)
            for letter in LETTERS:
                self.post.send(letter)
            self.assertEqual(state_of(self.hand, self.lender), before)

    def test_in_any_order(self):
        # Backs and grants of what was not lent or not taken yet are read, too.
        for order in itertools.permutations(range(1, 5)):
            self.begin()
            for letter in LETTERS:
                self.post.send(letter)
            tolds = {number: self.carry(number) for number in order}
            self.assertEqual(tolds[1], ("grant", "ann", 1, (0, 3, 13)))
            self.assertIs(tolds[2], True)
            self.assertIs(tolds[3], order.index(1) < order.index(3))
            self.assertIsNone(tolds[4])


class Refusals(Testing):
    def test_no_letter_goes_first(self):
        for rules in RULE_SETS:
            self.begin(rules)
            self.hand.fall()
            for number in (0, -1, 1, 2, LAST, -LAST):
                for hand, lender in [(self.hand, None), (None, self.lender), (None, None)]:
                    refusal = self.refuse(NoLetter, lambda: self.post.carry(number, hand, lender))
                    self.assertEqual(refusal.number, number)
            self.post.send(("news", "bob", "ann", 8))
            self.assertEqual(self.refuse(NoLetter, lambda: self.post.carry(2, self.hand, None)).number, 2)
            self.assertEqual(self.refuse(NoLetter, lambda: self.post.carry(0, self.hand, None)).number, 0)
            self.assertEqual(self.refuse(NoLetter, lambda: self.post.carry(-1, self.hand, None)).number, -1)

    def test_a_hand_that_is_down(self):
        for rules in RULE_SETS:
            self.begin(rules)
            self.post.send(("grant", "ann", 4, (1, 3, 13)))
            self.post.send(("news", "bob", "ann", 8))
            self.hand.fall()
            for number in (1, 2, 1, 2):
                self.refuse(Down, lambda: self.carry(number))
            # They may be read later.
            self.hand.rise()
            self.assertIs(self.carry(1), True)
            self.assertIsNone(self.carry(2))
            self.assertEqual((self.hand.area(), self.hand.place()), ((1, 3, 13), (8, 0)))

    def test_a_lender_without_room(self):
        for rules in RULE_SETS:
            self.begin(rules)
            for least in (LAST - 9, LAST, LAST + 1, 10 ** 400):
                number = self.post.send(("ask", "ann", least))
                for again in range(2):
                    self.refuse(NoRoom, lambda: self.carry(number))
            number = self.post.send(("ask", "ann", LAST - 10))
            self.assertEqual(self.carry(number), ("grant", "ann", 1, (0, LAST - 10, LAST)))

    def test_an_ask_that_was_refused_may_be_read_later(self):
        self.begin(slots=1)
        self.post.send(("ask", "ann", LAST - 15))
        self.post.send(("back", "ann", 1, LAST - 14))
        self.assertEqual(self.carry(1), ("grant", "ann", 1, (0, LAST - 15, LAST - 5)))
        self.refuse(NoRoom, lambda: self.carry(1))
        self.assertIs(self.carry(2), True)
        self.assertEqual(self.carry(1), ("grant", "ann", 2, (0, LAST - 14, LAST - 4)))


class WhatFollows(unittest.TestCase):
    def test_under_sound_rules_in_whichever_order_letters_are_read(self):
        made = 0
        for seed in range(60):
            chance = random.Random(54 + seed)
            settings = Settings(Shape(chance.choice([1, 3]), chance.choice([2, 3])), 40, 2, chance.choice([15, 30]))
            hands = [Hand(name, settings) for name in ("ann", "bob", "cid")]
            lender, post, marks = Lender(settings), Post(), {hand.name: [] for hand in hands}
            for step in range(120):
                hand = chance.choice(hands)
                kind = chance.randrange(10)
                if kind < 2:
                    post.send(("ask", hand.name, hand.tell()))
                elif kind < 3:
                    post.send(("news", hand.name, chance.choice(hands).name, hand.tell()))
                elif kind < 4:
                    hand.fall()
                    hand.rise()
                elif kind < 7 and post.sent():
                    last = len(post.sent())
                    number = chance.choice([last, last, chance.randrange(1, last + 1)])
                    name = for_whom(post.letter(number))
                    whom = {hand.name: hand for hand in hands}.get(name)
                    told = post.carry(number, whom, None if name else lender)
                    if isinstance(told, tuple):
                        post.send(told)
                else:
                    try:
                        hand.write(step)
                        marks[hand.name].append(hand.make(step))
                        if chance.randrange(4) == 0:
                            post.send(("back", hand.name) + hand.give_back())
                    except ValueError:
                        pass
                self.assertIsNone(meeting(lender.grants()))
            for name in marks:
                self.assertEqual(marks[name], sorted(set(marks[name])))
                made += len(marks[name])
            every = sum(marks.values(), [])
            self.assertEqual(len(every), len(set(every)))
        self.assertGreater(made, 300)


class NothingIsChanged(unittest.TestCase):
    def test_what_was_told_may_be_changed(self):
        post = Post()
        post.sent().append(LETTERS[0])
        self.assertEqual(post.sent(), [])
        post.send(LETTERS[0])
        told = post.sent()
        told[0] = LETTERS[1]
        told.append(LETTERS[2])
        self.assertEqual(post.sent(), [LETTERS[0]])
        self.assertEqual(post.send(LETTERS[3]), 2)
        self.assertEqual(told, [LETTERS[1], LETTERS[2]])

    def test_posts_are_apart_from_one_another(self):
        one, other = Post(), Post()
        one.send(LETTERS[0])
        self.assertEqual((other.sent(), Post().sent()), ([], []))
        self.assertEqual(other.send(LETTERS[1]), 1)
        self.assertEqual(one.sent(), [LETTERS[0]])


if __name__ == "__main__":
    unittest.main()
