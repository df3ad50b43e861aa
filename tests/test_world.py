"""Points 5 and 62 to 66, points 2 and 3 as far as a world goes, and the interface of risemarks.world."""

import itertools
import random
import unittest

from odd_things import others
from risemarks.areas import has
from risemarks.errors import BadDeed, NoHand
from risemarks.hands import Hand
from risemarks.holders import holder_of
from risemarks.rules import Settings
from risemarks.shapes import LAST, Shape, mark_of, parts_of
from risemarks.world import World
from test_hands import Model as HandModel
from test_lender import Model as LenderModel
from worlds import NAMES, RULE_SETS, Draw, answer, some_settings, some_worlds, told_by

AREA = (0, 0, 20)


def settings_of(rules=None, far=5, room=4, term=20, counts=3, slots=2):
    return Settings(Shape(counts, slots), far, room, term, rules)


def world_of(rules=None, names=("ann", "bob"), **others):
    return World(settings_of(rules, **others), list(names))


class Testing(unittest.TestCase):
    def goes(self, world, deed, told):
        """The deed is answered so, and stands at the journal's end."""
        journal = world.journal()
        self.assertEqual(answer(lambda: world.do(deed)), ("told", told))
        self.assertEqual(world.journal(), journal + [(deed, told)])
        self.assertIs(type(world.journal()[-1]), tuple)

    def refuse(self, world, deed, kind, field=None):
        """The deed is refused so, once and again, and nothing changes."""
        before = told_by(world)
        for again in range(2):
            self.assertEqual(answer(lambda: world.do(deed)), (kind, field))
            self.assertEqual(told_by(world), before)

    def sends(self, world, deed, letter):
        """The deed is answered with the number of this letter, which is sent."""
        letters = world.letters()
        self.goes(world, deed, len(letters) + 1)
        self.assertEqual(world.letters(), letters + [letter])

    def lent(self, rules=None, **others):
        """A world in which ann has taken the grant 1, by the letters 1 and 2."""
        world = world_of(rules, **others)
        for deed in [("ask", "ann"), ("carry", 1), ("carry", 2)]:
            world.do(deed)
        return world


class Being(Testing):
    def test_a_fresh_world(self):
        for rules in RULE_SETS:
            for count in range(1, 7):
                settings = settings_of(rules)
                world = World(settings, NAMES[:count])
                self.assertIs(world.settings, settings)
                self.assertEqual(world.names, NAMES[:count])
                self.assertEqual(told_by(world), ([], [], [], [], [((0, 0), [])] * count))

    def test_the_names_are_a_list_of_its_own(self):
        names = ["bob", "ann"]
        world = World(settings_of(), names)
        names.append("cid")
        names[0] = "zed"
        self.assertEqual(world.names, ["bob", "ann"])
        self.goes(world, ("ask", "bob"), 1)
        self.refuse(world, ("ask", "cid"), "NoHand", "cid")
        self.assertEqual(names, ["zed", "ann", "cid"])

    def test_the_list_that_is_read_of_it_may_be_changed(self):
        world = World(settings_of(), ["ann", "bob"])
        world.names.append("cid")
        world.names[0] = "zed"
        self.assertEqual(answer(lambda: world.do(("ask", "cid"))), ("NoHand", "cid"))
        self.assertEqual(answer(lambda: world.do(("ask", "zed"))), ("NoHand", "zed"))
        self.assertEqual(answer(lambda: world.do(("ask", "ann"))), ("told", 1))

    def test_arguments_by_name(self):
        world = World(names=["ann"], settings=settings_of())
        self.assertEqual(world.do(deed=("ask", "ann")), 1)
        self.assertEqual(world.hand_at(name="ann"), ((0, 0), []))


class Deeds(Testing):
    def test_ask(self):
        for rules in RULE_SETS:
            world = world_of(rules)
            self.sends(world, ("ask", "ann"), ("ask", "ann", 0))
            self.sends(world, ("ask", "bob"), ("ask", "bob", 0))
            self.sends(world, ("ask", "ann"), ("ask", "ann", 0))
            self.assertEqual(world.grants(), [])

    def test_ask_tells_the_hands_bound(self):
        for rules in RULE_SETS:
            world = self.lent(rules)
            world.do(("write", "ann", 7))
            world.do(("make", "ann", 7))
            self.sends(world, ("ask", "ann"), ("ask", "ann", 8))
            self.sends(world, ("ask", "bob"), ("ask", "bob", 0))

    def test_carry_of_an_ask_and_of_a_grant(self):
        for rules in RULE_SETS:
            world = world_of(rules)
            world.do(("ask", "bob"))
            self.sends(world, ("carry", 1), ("grant", "bob", 1, AREA))
            self.assertEqual(world.grants(), [(1, "bob", AREA)])
            self.assertEqual(world.hand_at("bob"), ((0, 0), []))
            self.sends(world, ("carry", 1), ("grant", "bob", 2, (1, 0, 20)))
            self.goes(world, ("carry", 3), True)
            self.assertEqual(world.hand_at("bob"), ((0, 0), [("took", 2, (1, 0, 20))]))
            self.goes(world, ("carry", 2), "once" not in rules)
            self.goes(world, ("carry", 3), "once" not in rules)
            self.assertEqual(len(world.hand_at("bob")[1]), 1 if "once" in rules else 3)
            self.assertEqual(world.hand_at("ann"), ((0, 0), []))

    def test_write_and_make(self):
        for rules in RULE_SETS:
            world = self.lent(rules)
            self.goes(world, ("write", "ann", 7), 11)
            self.goes(world, ("make", "ann", 7), mark_of(Shape(3, 2), 7, 0, 0))
            self.goes(world, ("make", "ann", 7), mark_of(Shape(3, 2), 7, 0, 1))
            self.assertEqual(world.hand_at("ann"), ((7, 2), [("took", 1, AREA), ("held", 11)]))
            self.assertEqual(world.marks(), [(42, "ann"), (43, "ann")])
            self.assertEqual(len(world.letters()), 2)

    def test_news(self):
        for rules in RULE_SETS:
            world = self.lent(rules)
            world.do(("write", "ann", 7))
            world.do(("make", "ann", 7))
            self.sends(world, ("news", "ann", "bob"), ("news", "ann", "bob", 8))
            self.assertEqual(world.hand_at("bob"), ((0, 0), []))
            self.goes(world, ("carry", 3), None)
            self.assertEqual(world.hand_at("bob"), ((8, 0), [("heard", 8)] if "spoken" in rules else []))
            self.sends(world, ("news", "bob", "ann"), ("news", "bob", "ann", 8))
            self.goes(world, ("carry", 4), None)
            self.assertEqual(world.hand_at("ann")[0], (8, 0))

    def test_news_of_a_hand_to_itself(self):
        for rules in RULE_SETS:
            world = self.lent(rules)
            world.do(("write", "ann", 7))
            world.do(("make", "ann", 7))
            self.sends(world, ("news", "ann", "ann"), ("news", "ann", "ann", 8))
            self.assertEqual(world.hand_at("ann")[0], (7, 1))
            self.goes(world, ("carry", 3), None)
            self.assertEqual(world.hand_at("ann")[0], (8, 0))
            self.goes(world, ("carry", 3), None)

    def test_back(self):
        for rules in RULE_SETS:
            world = self.lent(rules)
            world.do(("write", "ann", 7))
            self.sends(world, ("back", "ann"), ("back", "ann", 1, 11))
            self.assertEqual(world.grants(), [(1, "ann", AREA)])
            self.assertEqual(("ends", 1, 11) in world.hand_at("ann")[1], "ends" in rules)
            self.goes(world, ("carry", 3), True)
            self.assertEqual(world.grants(), [(1, "ann", (0, 0, 11))])
            self.goes(world, ("carry", 3), False)
            self.assertEqual(world.grants(), [(1, "ann", (0, 0, 11))])

    def test_fall_and_rise(self):
        for rules in RULE_SETS:
            world = self.lent(rules)
            world.do(("write", "ann", 7))
            self.goes(world, ("fall", "ann"), None)
            self.assertEqual(world.hand_at("ann"), (None, [("took", 1, AREA), ("held", 11)]))
            self.assertEqual(world.hand_at("bob"), ((0, 0), []))
            self.goes(world, ("rise", "ann"), None)
            self.assertEqual(world.hand_at("ann"), ((11, 0), [("took", 1, AREA), ("held", 11)]))

    def test_letters_read_late_and_often(self):
        for rules in RULE_SETS:
            world = self.lent(rules)
            world.do(("write", "ann", 7))
            world.do(("make", "ann", 7))
            world.do(("news", "ann", "bob"))
            world.do(("make", "ann", 9))
            world.do(("news", "ann", "bob"))
            self.goes(world, ("carry", 4), None)
            before = world.hand_at("bob")
            self.goes(world, ("carry", 3), None)
            self.goes(world, ("carry", 4), None)
            self.assertEqual(world.hand_at("bob"), before)
            self.assertEqual(before[0], (10, 0))

    def test_names_like_the_words_of_deeds(self):
        world = world_of(None, ("carry", "ask", "news"))
        self.sends(world, ("ask", "carry"), ("ask", "carry", 0))
        self.sends(world, ("carry", 1), ("grant", "carry", 1, AREA))
        self.goes(world, ("carry", 2), True)
        self.sends(world, ("news", "news", "ask"), ("news", "news", "ask", 0))


class Refusals(Testing):
    def test_what_is_no_deed(self):
        for rules in (None, ()):
            world = self.lent(rules)
            for thing in others() + [
                0, "ask", "ask ann", ["ask", "ann"], ("ask",), ("ask", "ann", 0), ("Ask", "ann"), ("take", "ann"),
                ("carry", 0), ("carry", -1), ("carry", "1"), ("carry", True), ("make", "ann"), ("make", "ann", -1),
                ("make", "ann", LAST + 1), ("make", "ann", None), ("news", "ann"), ("ask", "Ann"), ("ask", ""),
                ("ask", "abcdefghi"), ("write", "zed", LAST + 1), ("news", "zed", "yan", 1), ("make", "zed", True),
            ]:
                self.refuse(world, thing, "BadDeed")
            with self.assertRaises(BadDeed) as taken:
                world.do(None)
            self.assertIs(type(taken.exception), BadDeed)

    def test_names_that_no_hand_bears(self):
        for rules in RULE_SETS:
            world = self.lent(rules)
            for deed in [("ask", "zed"), ("write", "zed", 3), ("make", "zed", LAST), ("back", "zed"), ("fall", "zed"),
                         ("rise", "zed"), ("news", "zed", "ann"), ("news", "ann", "zed"), ("news", "zed", "zed"),
                         ("news", "zed", "yan")]:
                self.refuse(world, deed, "NoHand", "zed")
            self.refuse(world, ("news", "yan", "zed"), "NoHand", "yan")
            self.refuse(world, ("ask", "an"), "NoHand", "an")
            self.refuse(world, ("ask", "annn"), "NoHand", "annn")
            with self.assertRaises(NoHand) as taken:
                world.do(("ask", "zed"))
            self.assertIs(type(taken.exception), NoHand)

    def test_a_letter_that_none_has(self):
        for rules in RULE_SETS:
            world = world_of(rules)
            self.refuse(world, ("carry", 1), "NoLetter", 1)
            world.do(("ask", "ann"))
            self.refuse(world, ("carry", 2), "NoLetter", 2)
            self.refuse(world, ("carry", LAST), "NoLetter", LAST)
            self.goes(world, ("carry", 1), 2)
            self.refuse(world, ("carry", 3), "NoLetter", 3)

    def test_hands_that_are_down_or_up(self):
        for rules in RULE_SETS:
            world = self.lent(rules)
            self.refuse(world, ("rise", "ann"), "Up")
            self.refuse(world, ("rise", "bob"), "Up")
            world.do(("news", "bob", "ann"))
            world.do(("fall", "ann"))
            for deed in [("ask", "ann"), ("write", "ann", 0), ("make", "ann", 0), ("news", "ann", "bob"),
                         ("back", "ann"), ("fall", "ann"), ("carry", 2), ("carry", 3), ("news", "ann", "ann")]:
                self.refuse(world, deed, "Down")
            # Letters of a hand that is down are read, and others are sent to it.
            self.sends(world, ("carry", 1), ("grant", "ann", 2, (1, 0, 20)))
            self.sends(world, ("news", "bob", "ann"), ("news", "bob", "ann", 0))
            self.refuse(world, ("carry", 5), "Down")
            world.do(("rise", "ann"))
            self.goes(world, ("carry", 4), True)
            self.goes(world, ("carry", 5), None)

    def test_the_name_goes_ahead_of_down(self):
        world = world_of()
        world.do(("fall", "ann"))
        self.refuse(world, ("news", "ann", "zed"), "NoHand", "zed")

    def test_what_the_hand_refuses(self):
        for rules in RULE_SETS:
            world = self.lent(rules)
            for deed in [("write", "bob", 3), ("make", "bob", 3), ("back", "bob")]:
                self.refuse(world, deed, "NoArea")
            for deed in [("write", "ann", 20), ("make", "ann", 20), ("make", "ann", LAST)]:
                self.refuse(world, deed, "NoRoom")
            if "ahead" in rules:
                self.refuse(world, ("make", "ann", 3), "NoNote", 3)
            world.do(("write", "ann", 17))
            world.do(("make", "ann", 17))
            self.refuse(world, ("make", "ann", 11), "Wait", 12)
            self.refuse(world, ("write", "ann", 0), "Wait", 12)
            self.refuse(world, ("back", "ann"), "NoRoom")

    def test_what_the_lender_refuses(self):
        for rules in RULE_SETS:
            world = world_of(rules, term=10 ** 12, room=10 ** 12, far=10 ** 12)
            for step in range(3):
                world.do(("ask", "ann"))
                world.do(("carry", len(world.letters())))
                world.do(("carry", len(world.letters())))
            world = self.lent(rules, term=10 ** 12, slots=1)
            world.hands["ann"].hear(LAST - 10 ** 12 + 1)
            world.do(("ask", "ann"))
            self.refuse(world, ("carry", 3), "NoRoom")
            self.assertEqual(len(world.grants()), 1)

    def test_hands_by_any_text(self):
        world = world_of()
        for name in ["zed", "", "Ann", "ann ", "an", "abcdefghijkl", "ann bob", "0"]:
            with self.assertRaises(NoHand) as taken:
                world.hand_at(name)
            self.assertIs(type(taken.exception), NoHand)
            self.assertEqual(taken.exception.name, name)


class Model:
    """A world by the points' words alone."""

    def __init__(self, settings, names):
        self.hands = {name: HandModel(settings, []) for name in names}
        self.lender = LenderModel(settings)
        self.sent = []
        self.done = []

    def state(self):
        marks = [(told, deed[1]) for deed, told in self.done if deed[0] == "make"]
        hands = [(hand.at, hand.lines) for hand in self.hands.values()]
        return (marks, self.done, self.lender.kept, self.sent, hands)

    def send(self, letter):
        self.sent.append(letter)
        return ("told", len(self.sent))

    def do(self, deed):
        for name in deed[1:]:
            if isinstance(name, str) and name not in self.hands:
                return ("NoHand", name)
        told = getattr(self, "do_" + deed[0])(*deed[1:])
        if told[0] == "told":
            self.done.append((deed, told[1]))
        return told

    def sent_of(self, name, build):
        word, bound = self.hands[name].do(("tell",))
        return self.send(build(bound)) if word == "told" else (word, None)

    def do_ask(self, name):
        return self.sent_of(name, lambda bound: ("ask", name, bound))

    def do_news(self, name, to):
        return self.sent_of(name, lambda bound: ("news", name, to, bound))

    def do_carry(self, number):
        if number > len(self.sent):
            return ("NoLetter", number)
        letter = self.sent[number - 1]
        if letter[0] == "ask":
            lent = self.lender.lend(letter[1], letter[2])
            return ("NoRoom", None) if lent == "NoRoom" else self.send(("grant", letter[1]) + lent)
        if letter[0] == "grant":
            return self.hands[letter[1]].do(("take",) + letter[2:])
        if letter[0] == "back":
            return ("told", self.lender.free(letter[2], letter[3]))
        return self.hands[letter[2]].do(("hear", letter[3]))

    def do_write(self, name, reading):
        return self.hands[name].do(("write", reading))

    def do_make(self, name, reading):
        return self.hands[name].do(("make", reading))

    def do_back(self, name):
        word, told = self.hands[name].do(("give_back",))
        return self.send(("back", name) + told) if word == "told" else (word, told)

    def do_fall(self, name):
        return self.hands[name].do(("fall",))

    def do_rise(self, name):
        return self.hands[name].do(("rise",))


class AsTold(unittest.TestCase):
    def test_each_deed_is_answered_as_the_points_say(self):
        seen = {}
        for world, draw in some_worlds(62, RULE_SETS, 12):
            model = Model(world.settings, world.names)
            names = draw.names + ["zed"] if draw.chance.randrange(4) == 0 else draw.names
            draw.names = names
            for step in range(150):
                deed = draw.deed(world)
                told = answer(lambda: world.do(deed))
                self.assertEqual(told, model.do(deed))
                seen[deed[0], told[0]] = seen.get((deed[0], told[0]), 0) + 1
                if step % 10 == 9 or told[0] != "told":
                    self.assertEqual(told_by(world), model.state())
        # The runs are worth something only where each answer comes in them.
        for deed, words in {
            "ask": "told NoHand Down", "news": "told NoHand Down", "carry": "told NoLetter Down",
            "write": "told NoHand Down NoArea NoRoom Wait", "make": "told NoHand Down NoArea NoRoom Wait NoNote",
            "back": "told NoHand Down NoArea NoRoom", "fall": "told NoHand Down", "rise": "told NoHand Up",
        }.items():
            for word in words.split():
                self.assertGreater(seen.get((deed, word), 0), 4, (deed, word))


class Sound(unittest.TestCase):
    """What holds of every world with sound settings (5, 65)."""

    def begin(self, world):
        self.world = world
        self.known = {name: set() for name in world.names}
        self.news = {}
        self.greatest = 0
        self.seen = {}

    def step(self, deed):
        word, told = answer(lambda: self.world.do(deed))
        self.seen[deed[0], word] = self.seen.get((deed[0], word), 0) + 1
        if word == "Wait":
            settings = self.world.settings
            most = self.greatest + settings.room + settings.term * len(self.world.grants())
            self.assertLessEqual(told, most)
        if word != "told":
            return
        if deed[0] in ("write", "make"):
            self.greatest = max(self.greatest, deed[2])
        if deed[0] == "news":
            self.news[told] = (deed[2], set(self.known[deed[1]]))
        if deed[0] == "carry" and deed[1] in self.news:
            to, known = self.news[deed[1]]
            self.known[to] |= known
        if deed[0] == "make":
            self.check_mark(deed[1], deed[2], told)

    def check_mark(self, name, reading, mark):
        shape = self.world.settings.shape
        moment, slot, count = parts_of(shape, mark)
        self.assertEqual(mark_of(shape, moment, slot, count), mark)
        self.assertTrue(reading <= moment <= reading + self.world.settings.far)
        self.assertLess(max(self.known[name], default=-1), mark)
        self.assertNotIn(mark, [other for other, maker in self.world.marks()[:-1]])
        self.known[name].add(mark)

    def check_holders(self):
        """Each mark lies in the area of just one grant, as they are now, whose hand made it."""
        shape, grants = self.world.settings.shape, self.world.grants()
        for mark, name in self.world.marks():
            holders = [hand for grant, hand, area in grants if has(shape, area, mark)]
            self.assertEqual(holders, [name])
            self.assertEqual(holder_of(shape, grants, mark)[1], name)

    def test_whatever_is_done(self):
        seen, marks = {}, 0
        for world, draw in some_worlds(65, [None], 130):
            self.begin(world)
            for step in range(draw.chance.choice([60, 250])):
                self.step(draw.deed(world))
                if step % 7 == 0:
                    self.check_holders()
            self.check_holders()
            made = [mark for mark, name in world.marks()]
            self.assertEqual(len(made), len(set(made)))
            for name in world.names:
                own = [mark for mark, maker in world.marks() if maker == name]
                self.assertEqual(own, sorted(own))
            for key in self.seen:
                seen[key] = seen.get(key, 0) + self.seen[key]
            marks += len(made)
        self.assertGreater(marks, 1000)
        for key in [("make", "Wait"), ("write", "Wait"), ("back", "told"), ("fall", "told"), ("carry", "told")]:
            self.assertGreater(seen[key], 50, key)

    def test_near_the_last_moment(self):
        marks = 0
        for seed in range(20):
            chance = random.Random(seed)
            settings = Settings(Shape(2, 2), 10 ** 12, 5, 10 ** 12)
            world = World(settings, NAMES[:2])
            # No world comes there by deeds within the bounds, so its hands are brought there.
            for name in world.names:
                world.hands[name].hear(LAST - 3 * 10 ** 12)
            self.begin(world)
            self.greatest = LAST
            draw = Draw(chance, world.names, LAST - 3 * 10 ** 12)
            for step in range(150):
                draw.clock = min(LAST - 20, draw.clock + chance.choice([0, 0, 10 ** 11]))
                self.step(draw.deed(world))
            self.check_holders()
            marks += len(world.marks())
        self.assertGreater(marks, 100)

    def test_without_the_rules_it_goes_amiss(self):
        twice = 0
        for world, draw in some_worlds(650, [()], 20):
            for step in range(150):
                answer(lambda: world.do(draw.deed(world)))
            made = [mark for mark, name in world.marks()]
            twice += len(made) > len(set(made))
        self.assertGreater(twice, 2)


class Anew(unittest.TestCase):
    def test_the_deeds_of_a_journal_done_anew(self):
        for world, draw in some_worlds(66, RULE_SETS, 6):
            refused = 0
            for step in range(120):
                refused += answer(lambda: world.do(draw.deed(world)))[0] != "told"
            fresh = World(world.settings, world.names)
            for deed, told in world.journal():
                self.assertEqual(answer(lambda: fresh.do(deed)), ("told", told))
            self.assertEqual(told_by(fresh), told_by(world))
            self.assertEqual(len(world.journal()), 120 - refused)

    def test_every_deed_in_small_worlds(self):
        # All rows of three deeds behind a taken grant: what was refused left no trace.
        deeds = [("ask", "ann"), ("carry", 1), ("carry", 2), ("carry", 3), ("write", "ann", 1), ("make", "ann", 1),
                 ("news", "ann", "ann"), ("back", "ann"), ("fall", "ann"), ("rise", "ann"), ("make", "zed", 1)]
        for rules in RULE_SETS[:2]:
            for row in itertools.product(deeds, repeat=3):
                world = world_of(rules, ["ann"])
                for deed in (("ask", "ann"), ("carry", 1), ("carry", 2)) + row:
                    answer(lambda: world.do(deed))
                fresh = world_of(rules, ["ann"])
                for deed, told in world.journal():
                    self.assertEqual(fresh.do(deed), told)
                self.assertEqual(told_by(fresh), told_by(world))


class NothingIsChanged(Testing):
    def test_what_was_told_may_be_changed(self):
        world = self.lent()
        for deed in [("write", "ann", 7), ("make", "ann", 7), ("news", "ann", "bob"), ("carry", 3)]:
            world.do(deed)
        before = told_by(world)
        for ask in (world.marks, world.journal, world.grants, world.letters, lambda: world.hand_at("ann")[1]):
            told = ask()
            self.assertGreater(len(told), 0)
            told[0] = None
            told.append(("held", 99))
            self.assertEqual(told_by(world), before)
            ask().clear()
            self.assertEqual(told_by(world), before)
        self.goes(world, ("make", "ann", 7), 43)

    def test_of_a_fresh_world_too(self):
        world = world_of()
        before = told_by(world)
        for ask in (world.marks, world.journal, world.grants, world.letters, lambda: world.hand_at("ann")[1]):
            ask().append(("held", 99))
            self.assertEqual(told_by(world), before)

    def test_what_was_told_stays_as_it_was(self):
        world = self.lent()
        before = told_by(world)
        copy = tuple(list(part) for part in before)
        world.do(("write", "ann", 7))
        world.do(("make", "ann", 7))
        world.do(("back", "ann"))
        world.do(("carry", 3))
        self.assertEqual(before, copy)
        self.assertEqual(before[4][0], ((0, 0), [("took", 1, AREA)]))

    def test_asking_changes_nothing(self):
        world = self.lent()
        before = told_by(world)
        for again in range(3):
            self.assertEqual(told_by(world), before)

    def test_worlds_are_apart_from_one_another(self):
        settings = settings_of()
        one, other = World(settings, ["ann"]), World(settings, ["ann"])
        one.do(("ask", "ann"))
        one.do(("carry", 1))
        self.assertEqual(told_by(other), ([], [], [], [], [((0, 0), [])]))
        self.goes(other, ("ask", "ann"), 1)
        self.assertEqual(len(one.letters()), 2)

    def test_a_hand_by_the_world_goes_as_a_hand_alone(self):
        chance = random.Random(33)
        for rules in RULE_SETS:
            settings = some_settings(chance, rules)
            world, hand = World(settings, ["ann"]), Hand("ann", settings)
            world.do(("ask", "ann"))
            world.do(("carry", 1))
            world.do(("carry", 2))
            hand.take(*world.grants()[0][::2])
            for step in range(100):
                kind = chance.choice(["make", "make", "write", "fall", "rise"])
                more = (chance.randrange(30),) if kind in ("make", "write") else ()
                told = answer(lambda: world.do((kind, "ann") + more))
                self.assertEqual(answer(lambda: getattr(hand, kind)(*more)), told)
                self.assertEqual(world.hand_at("ann"), (hand.place(), hand.note()))


if __name__ == "__main__":
    unittest.main()
