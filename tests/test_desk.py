"""Points 93 to 95, points 2 and 3 as far as a desk goes, and of the interface what it says of risemarks.desk."""

import itertools
import random
import unittest

from odd_things import others
from risemarks.codes import read, shown
from risemarks.desk import Desk
from risemarks.errors import (
    BadDeed, BadSettings, BadShape, NoCode, NoGrant, NoHand, NoLetter, NoLine, NoNote, NoText, Overlap, RiseError,
    TooMany, Wait)
from risemarks.gaps import made_in
from risemarks.holders import holder_of
from risemarks.knowing import chain, is_chain
from risemarks.looker import look
from risemarks.rules import RULES, Settings
from risemarks.shapes import LAST, Shape, mark_of, parts_of
from risemarks.shown import is_row
from risemarks.smalls import Small
from risemarks.words import deed_text, line_text, settings_text
from risemarks.world import World
from smallworlds import small_of, without
from worlds import NAMES, RULE_SETS, Draw, some_settings, told_by

SOUND = "ahead+apart+ends+once+spoken"
FIELDS = {
    BadSettings: ["word"], Wait: ["reading"], NoNote: ["moment"], NoLetter: ["number"], NoGrant: ["mark"],
    NoHand: ["name"], Overlap: ["one", "other"],
}


def answer(ask):
    """What is told, or the refusal's class and its fields."""
    try:
        return ("told", ask())
    except RiseError as refusal:
        return (type(refusal), [getattr(refusal, field) for field in FIELDS.get(type(refusal), [])])


class Testing(unittest.TestCase):
    def setUp(self):
        self.desk = Desk()

    def says(self, *rows):
        """Each line is answered so."""
        for line, told in rows:
            self.assertEqual(answer(lambda: self.desk.say(line)), ("told", told), line)

    def refuse(self, kind, *lines, fields=()):
        """Each line is refused so, and the world stays as it was."""
        before = self.state()
        for line in lines:
            for again in range(2):
                self.assertEqual(answer(lambda: self.desk.say(line)), (kind, list(fields)), repr(line))
        self.assertEqual(self.state(), before)

    def state(self):
        """What the desk tells of its world."""
        told = []
        for line in ["marks", "left"] + [f"{word} {name}" for word in ("note", "place") for name in NAMES]:
            told.append(answer(lambda: self.desk.say(line)))
        return told

    def begin(self, rules=SOUND):
        """A world in which ann has taken the grant 1 and made a mark, and bob has heard of it."""
        self.says((f"world 3 2 5 4 20 {rules} ann bob", "ok"), ("ask ann", "1"), ("carry 1", "2"), ("carry 2", "yes"),
                  ("write ann 7", "11"), ("make ann 7", shown(42)), ("news ann bob", "3"), ("carry 3", "ok"))


class Worlds(Testing):
    def test_one_to_six_names(self):
        for count in range(1, 7):
            self.says(("world 3 2 5 4 20 none " + " ".join(NAMES[:count]), "ok"))
            for name in NAMES[:count]:
                self.says((f"place {name}", "0 0"), (f"note {name}", "none"))
            for name in NAMES[count:]:
                self.refuse(NoHand, f"place {name}", f"note {name}", f"ask {name}", fields=[name])

    def test_a_second_world_is_a_fresh_one(self):
        self.begin()
        self.says(("world 1 1 0 1 1 none ann cid", "ok"), ("marks", "none"), ("left", "none"), ("place ann", "0 0"))
        self.refuse(NoHand, "place bob", fields=["bob"])
        self.refuse(NoLetter, "carry 1", fields=[1])
        self.says(("ask ann", "1"), ("carry 1", "2"), ("carry 2", "yes"), ("note ann", "took:1:0,0,1"), ("left",
                                                                                                         "1:0:1"))

    def test_lines_that_are_none(self):
        for is_there in (False, True):
            if is_there:
                self.begin()
            self.refuse(
                NoLine, "world", "world 3 2 5 4 20 none", "world 3 2 5 4 20 ann", "world 3 2 5 4 20 none ann ann",
                "world 3 2 5 4 20 none ann bob ann", "world 3 2 5 4 20 none " + " ".join(NAMES) + " zed",
                "world 3 2 5 4 20 none Ann", "world 3 2 5 4 20 none abcdefghi", "world 3 2 5 4 20 none ann 3",
                "world 3 2 5 4 20 all ann", "world 3 2 5 4 20 once+ahead ann", "world 03 2 5 4 20 none ann",
                "world 3 2 5 4 -20 none ann", "world 3 2 5 4 none 20 ann", "world 3 2 5 4 20 none  ann",
                "world  3 2 5 4 20 none ann", " world 3 2 5 4 20 none ann", "world 3 2 5 4 20 none ann ",
                "World 3 2 5 4 20 none ann", "worlds 3 2 5 4 20 none ann", "world 3 2 5 4 " + "1" * 41 + " none ann",
                "world 3 2 5 4 20 none ann\n", "world 3 2 5 4 20 30 none ann", "world ann", "world none ann",
                "world 3 2 5 4 20 none an1", "world 3 2 5 4 20 none,ann", "world 3 2 5 4 20 None ann")

    def test_settings_out_of_their_bounds(self):
        for is_there in (False, True):
            if is_there:
                self.begin()
            self.refuse(BadShape, "world 0 2 5 4 20 none ann", "world 3 1001 5 4 20 none ann",
                        "world 0 0 0 0 0 none ann")
            for line, word in [(f"world 3 2 {10 ** 12 + 1} 4 20 none ann", "far"), ("world 3 2 5 0 20 none ann",
                                                                                    "room"),
                               ("world 3 2 5 4 0 none ann", "term"), ("world 3 2 5 0 0 none ann", "room")]:
                self.refuse(BadSettings, line, fields=[word])

    def test_all_words_go_ahead_of_what_is_refused_behind(self):
        self.refuse(NoLine, "world 0 2 5 4 20 none ann ann", "world 0 2 5 4 20 none Ann", "world 3 2 5 0 20 none",
                    "world 0 2 5 4 20 all ann", "world 3 2 5 4 0 none " + " ".join(NAMES) + " zed",
                    "world 1001 2 5 4 x none ann")

    def test_the_bounds_themselves(self):
        most = 10 ** 12
        self.says((f"world 1000 1000 {most} {most} {most} none abcdefgh", "ok"), ("world 1 1 0 1 1 none a", "ok"))


class NoWorld(Testing):
    def test_each_other_line_is_refused(self):
        lines = ["ask ann", "carry 1", "write ann 3", "make ann 3", "news ann bob", "back ann", "fall ann", "rise ann",
                 "marks", "parts 10", "who 10", "chain 10 11", "left", "note ann", "place ann"]
        self.refuse(NoLine, *lines)
        self.refuse(BadShape, "world 0 2 5 4 20 none ann")
        self.refuse(NoLine, *lines)

    def test_look_goes(self):
        self.says(("look 1 1 1 " + SOUND + " 2 0-2", "never 77"))
        self.refuse(NoLine, "marks")


class Deeds(Testing):
    def test_each_deed(self):
        self.begin()
        self.says(
            ("make ann 7", shown(43)), ("carry 2", "no"), ("back ann", "4"), ("carry 4", "yes"), ("carry 4", "no"),
            ("fall ann", "ok"), ("rise ann", "ok"), ("carry 1", "5"), ("carry 5", "yes"), ("ask bob", "6"),
            ("news bob bob", "7"), ("carry 7", "ok"), ("carry 6", "8"), ("carry 8", "yes"), ("write bob 9", "15"))

    def test_what_a_world_refuses(self):
        self.begin()
        self.refuse(NoHand, "ask zed", "news ann zed", "news zed yan", "make zed 3", fields=["zed"])
        self.refuse(NoHand, "news yan zed", fields=["yan"])
        self.refuse(NoLetter, "carry 4", fields=[4])
        self.refuse(NoLetter, "carry " + "9" * 40, fields=[10 ** 40 - 1])
        self.refuse(NoNote, "make ann 11", fields=[11])
        self.refuse(Wait, "make ann 1", "write ann 1", fields=[2])
        self.assertEqual({kind.__name__ for kind in self.kinds("make bob 3", "make ann 20", "rise ann")},
                         {"NoArea", "NoRoom", "Up"})
        self.says(("fall bob", "ok"))
        self.assertEqual({kind.__name__ for kind in self.kinds("fall bob", "carry 3", "ask bob", "make bob 3")},
                         {"Down"})

    def kinds(self, *lines):
        before = self.state()
        kinds = [answer(lambda: self.desk.say(line))[0] for line in lines]
        self.assertEqual(self.state(), before)
        return kinds

    def test_lines_that_are_none(self):
        self.begin()
        self.refuse(
            NoLine, "ask", "ask Ann", "ask ann bob", "ask  ann", " ask ann", "ask ann ", "Ask ann", "asks ann", "carry",
            "carry 0", "carry 01", "carry -1", "carry ann", "carry 1 2", "make ann", "make ann x", "make ann 07",
            f"make ann {LAST + 1}", f"write ann {LAST + 1}", "make ann " + "1" * 41, "make 7 ann", "make ann bob",
            f"make zed {LAST + 1}", "news ann", "news ann 3", "news ann bob ann", "back", "back ann 1", "fall",
            "fall 1",
            "rise", "take 1", "hear 3", "tell ann", "make ann 7\n", "make\tann 7", "carry " + "1" * 41, "zed", "ann",
            "", " ", "  ", "ok", "none", "10")

    def test_whatever_it_is(self):
        for is_there in (False, True):
            if is_there:
                self.begin()
            self.refuse(NoLine, 0, 1, ("ask", "ann"), ["ask", "ann"], ("make", "ann", 3), *others())

    def test_the_reading_last(self):
        self.begin()
        self.assertEqual(self.kinds(f"make ann {LAST}")[0].__name__, "NoRoom")


class Telling(Testing):
    def test_marks(self):
        self.says(("world 3 2 5 4 20 none ann bob", "ok"), ("marks", "none"))
        self.begin()
        self.says(("marks", shown(42) + ":ann"), ("make ann 8", shown(48)),
                  ("marks", f"{shown(42)}:ann {shown(48)}:ann"))
        self.says(("ask bob", "4"), ("carry 4", "5"), ("carry 5", "yes"), ("write bob 8", "12"), ("make bob 8",
                                                                                                  shown(51)),
                  ("marks", f"{shown(42)}:ann {shown(48)}:ann {shown(51)}:bob"))

    def test_parts(self):
        self.begin()
        for mark in [0, 1, 42, 43, 3 * LAST, 32 ** 31 - 1]:
            moment, slot, count = parts_of(Shape(3, 2), mark)
            self.says((f"parts {shown(mark)}", f"{moment} {slot} {count}"))
        self.says(("world 1 1 0 1 1 none ann", "ok"), ("parts " + "z" * 32, f"{32 ** 31 - 1} 0 0"))
        self.assertGreater(len(str(32 ** 31 - 1)), 40)

    def test_who(self):
        self.begin()
        self.says((f"who {shown(42)}", "1 ann"), (f"who {shown(0)}", "1 ann"))
        for mark in [mark_of(Shape(3, 2), 7, 1, 0), mark_of(Shape(3, 2), 20, 0, 0), 32 ** 31 - 1]:
            self.refuse(NoGrant, f"who {shown(mark)}", fields=[mark])
        self.says(("back ann", "4"), (f"who {shown(mark_of(Shape(3, 2), 11, 0, 0))}", "1 ann"), ("carry 4", "yes"))
        late = mark_of(Shape(3, 2), 11, 0, 0)
        self.refuse(NoGrant, f"who {shown(late)}", fields=[late])
        self.says((f"who {shown(late - 1 - 3)}", "1 ann"))

    def test_who_of_several(self):
        self.says(("world 1 1 5 4 20 none ann bob cid", "ok"))
        for number, name in [(1, "ann"), (3, "bob"), (5, "cid")]:
            self.says((f"ask {name}", str(number)), (f"carry {number}", str(number + 1)))
        self.refuse(Overlap, "who 10", "who " + shown(19), fields=[1, 2])
        self.refuse(NoGrant, "who " + shown(20), fields=[20])

    def test_chain(self):
        self.begin()
        self.says(("make ann 8", shown(48)), ("ask bob", "4"), ("carry 4", "5"), ("carry 5", "yes"),
                  ("write bob 8", "12"), ("make bob 8", shown(51)), (f"chain {shown(42)} {shown(51)}", "4 5 6 12"),
                  (f"chain {shown(42)} {shown(48)}", "4 7"), (f"chain {shown(48)} {shown(51)}", "none"),
                  (f"chain {shown(51)} {shown(42)}", "none"), (f"chain {shown(42)} {shown(42)}", "none"),
                  (f"chain {shown(42)} {shown(43)}", "none"), ("chain 10 11", "none"))

    def test_left(self):
        self.says(("world 3 2 5 4 20 none ann bob", "ok"), ("left", "none"))
        self.begin()
        self.says(("left", "1:1:59"), ("ask bob", "4"), ("carry 4", "5"), ("left", "1:1:59 2:0:60"), ("back ann", "6"),
                  ("carry 6", "yes"), ("left", "1:1:32 2:0:60"))

    def test_left_counts_a_mark_that_was_made_twice_once(self):
        self.says(("world 1 1 5 4 20 none ann", "ok"), ("ask ann", "1"), ("carry 1", "2"), ("carry 2", "yes"),
                  ("make ann 3", "13"), ("fall ann", "ok"), ("rise ann", "ok"), ("make ann 3", "13"),
                  ("marks", "13:ann 13:ann"), ("left", "1:1:19"))

    def test_note_and_place(self):
        self.begin()
        self.says(("note ann", "took:1:0,0,20 held:11"), ("note bob", "heard:8"), ("place ann", "7 1"),
                  ("place bob", "8 0"), ("back ann", "4"), ("note ann", "took:1:0,0,20 held:11 ends:1:11"),
                  ("fall ann", "ok"), ("place ann", "down"), ("note ann", "took:1:0,0,20 held:11 ends:1:11"),
                  ("rise ann", "ok"), ("place ann", "11 0"))
        self.refuse(NoHand, "note zed", "place zed", fields=["zed"])

    def test_lines_that_are_none(self):
        self.begin()
        for word in ("marks", "left"):
            self.refuse(NoLine, f"{word} ann", f"{word} 10", f"{word} ", f" {word}", word.title(), word[:-1])
        for word in ("parts", "who"):
            self.refuse(NoLine, word, f"{word} 10 10", f"{word} 1", f"{word} 100", f"{word} 42", f"{word} ann",
                        f"{word} 1Z", f"{word} 1i", f"{word} 200", f"{word} -1", f"{word}  10", f"{word} 10 ",
                        f"{word} 0", f"{word} 110")
        self.refuse(NoLine, "chain", "chain 10", "chain 10 11 12", "chain 10 1", "chain 1 10", "chain ann bob",
                    "chain 10  11", "chain 10 200")
        for word in ("note", "place"):
            self.refuse(NoLine, word, f"{word} Ann", f"{word} ann bob", f"{word} 1", f"{word} abcdefghi",
                        f"{word} zed1",
                        f"{word}  ann", f"{word} ann ")

    def test_no_other_refusal_slips_through(self):
        # A word that is none where a text or a mark is read is no line.
        self.begin()
        for line in ["parts 1", "make ann 07", "ask Ann", "look 1", 7]:
            kind = answer(lambda: self.desk.say(line))[0]
            self.assertNotIn(kind, (NoCode, NoText, BadDeed))


class Looking(Testing):
    def test_never(self):
        for rules in (SOUND, "ahead+ends+once+spoken"):
            self.says((f"look 1 1 1 {rules} 2 0-2", "never 77"), (f"look 1 0 1 {rules} 1 0-1", "never 21"))
        self.says((f"look 1 2 1 {SOUND} 2 0-1 1-2", "never 124"))

    def test_bad_words(self):
        for left, word, count in [("ahead", "twice", 5), ("spoken", "below", 6), ("ends", "astray", 4),
                                  ("once", "astray", 5)]:
            line = f"look 1 1 1 {'+'.join(without(left))} 2 0-2"
            told = self.desk.say(line).split(" ")
            self.assertEqual((told[0], len(told)), (word, count + 1))
            deeds = [self.deed(text) for text in told[1:]]
            self.assertIs(is_row(small_of(rules=without(left)), word, deeds), True)
            self.says((line, " ".join(told)))

    def deed(self, text):
        word, *more = text.split(":")
        return (word,) + tuple(int(figures) for figures in more)

    def test_beside_the_looker(self):
        for far, room, counts, rules, moments, areas in itertools.product(
            (0, 2), (1, 2), (1, 2), [RULES, (), without("ahead"), without("spoken")], (1, 2),
            [[(0, 1)], [(0, 2)], [(3, LAST)], [(0, 1), (0, 2)]],
        ):
            words = " ".join(f"{first}-{end}" for first, end in areas)
            line = f"look {counts} {far} {room} {'+'.join(rules) or 'none'} {moments} {words}"
            small = Small(Settings(Shape(counts, 1), far, room, 1, rules), [(0, *area) for area in areas], moments)
            told = answer(lambda: look(small))
            if told[0] == "told":
                word, layers, deeds = told[1]
                count = sum(len(layer) for layer in layers)
                found = self.desk.say(line)
                if word == "never":
                    self.assertEqual(found, f"never {count}")
                else:
                    self.assertEqual(found.split(" ")[0], word)
                    self.assertIs(is_row(small, word, [self.deed(text) for text in found.split(" ")[1:]]), True)
                    self.assertEqual(len(found.split(" ")), len(layers) + 1)
            else:
                self.refuse(TooMany, line)

    def test_too_many(self):
        self.refuse(TooMany, f"look 1 1 1 {SOUND} 2 0-2 1-3", f"look 1 1 2 {SOUND} 4 0-4")
        self.begin()
        self.refuse(TooMany, f"look 1 1 1 {SOUND} 2 0-2 1-3")

    def test_lines_that_are_none(self):
        for is_there in (False, True):
            if is_there:
                self.begin()
            self.refuse(
                NoLine, "look", "look 1 1 1 none 2", "look 1 1 1 none 2 0-2 0-2 0-2", "look 1 1 1 none 0 0-2",
                "look 1 1 1 none 5 0-2", "look 1 1 1 none 02 0-2", "look 1 1 1 none x 0-2", "look 1 1 1 all 2 0-2",
                "look 1 1 1 2 none 0-2", "look 1 1 1 none 2 2-2", "look 1 1 1 none 2 3-2", "look 1 1 1 none 2 0",
                "look 1 1 1 none 2 0-", "look 1 1 1 none 2 -2", "look 1 1 1 none 2 0-2-3", "look 1 1 1 none 2 0,2",
                "look 1 1 1 none 2 00-2", "look 1 1 1 none 2 0-02", f"look 1 1 1 none 2 0-{LAST + 1}",
                f"look 1 1 1 none 2 {LAST}-{LAST + 1}", "look 1 1 1 none 2 0 - 2", "look 1 1 1 none  2 0-2",
                "look 1 1 1 none 2 0-2 ", " look 1 1 1 none 2 0-2", "look 01 1 1 none 2 0-2", "look 1 1 none 2 0-2",
                "look 1 1 1 1 none 2 0-2", "look 1 1 1 none 2 a-b", "look 1 1 1 none 2 0-2 x", "Look 1 1 1 none 2 0-2",
                "look 1 1 1 none 2 0--2", "look 1 -1 1 none 2 0-2", "look 1 1 1 none 2 0-" + "1" * 41,
                # All words go ahead of what is refused behind.
                "look 0 1 1 none 5 0-2", "look 0 1 1 none 2 2-2", "look 1 1 0 none 2 0-2 0-2 0-2")

    def test_settings_out_of_their_bounds(self):
        self.refuse(BadShape, "look 0 1 1 none 2 0-2", "look 1001 1 1 none 2 0-2", "look 0 1 0 none 2 0-2")
        self.refuse(BadSettings, f"look 1 {10 ** 12 + 1} 1 none 2 0-2", fields=["far"])
        self.refuse(BadSettings, "look 1 1 0 none 2 0-2", f"look 1 1 {10 ** 12 + 1} none 2 0-2", fields=["room"])

    def test_the_edges(self):
        self.says((f"look 1 0 1 {SOUND} 1 {LAST - 1}-{LAST}", self.desk.say(f"look 1 0 1 {SOUND} 1 {LAST - 9}-{LAST}")))
        for moments in range(1, 5):
            self.assertEqual(self.desk.say(f"look 1 0 1 none {moments} 0-2").split(" ")[0], "astray")
        self.says((f"look 1000 {10 ** 12} {10 ** 12} none 1 0-2", self.desk.say("look 1000 1 5 none 1 0-2")))

    def test_the_world_stays(self):
        self.begin()
        before = self.state()
        self.desk.say("look 1 1 1 none 2 0-2")
        self.assertEqual(self.state(), before)


class BesideAWorld(Testing):
    def expected(self, deed, told):
        if deed[0] == "make":
            return shown(told)
        return {None: "ok", True: "yes", False: "no"}[told] if told is None or isinstance(told, bool) else str(told)

    def check_telling(self, world):
        shape, journal = world.settings.shape, world.journal()
        marks = [mark for mark, name in world.marks()]
        once = sorted(set(marks))
        left = [f"{grant}:{made}:{rest}" for grant, made, rest in made_in(shape, world.grants(), once)]
        self.says(("marks", " ".join(f"{shown(mark)}:{name}" for mark, name in world.marks()) or "none"),
                  ("left", " ".join(left) or "none"))
        for name in world.names:
            place, note = world.hand_at(name)
            self.says((f"note {name}", " ".join(line_text(line) for line in note) or "none"),
                      (f"place {name}", "down" if place is None else f"{place[0]} {place[1]}"))
        for mark in once[:4] + once[-4:] + [0, 7]:
            self.says((f"parts {shown(mark)}", "{} {} {}".format(*parts_of(shape, mark))))
            word, held = answer(lambda: holder_of(shape, world.grants(), mark))
            told = f"{held[0]} {held[1]}" if word == "told" else held
            self.assertEqual(answer(lambda: self.desk.say(f"who {shown(mark)}")), (word, told))
        for one, other in itertools.product(once[:3] + once[-3:], repeat=2):
            told = self.desk.say(f"chain {shown(one)} {shown(other)}")
            found = chain(journal, one, other)
            if found is None:
                self.assertEqual(told, "none")
            else:
                places = [int(word) for word in told.split(" ")]
                self.assertIs(is_chain(journal, one, other, places), True)
                self.assertEqual(len(places), len(found))

    def run_lines(self, seed, rules):
        chance = random.Random(seed)
        names = NAMES[:chance.randrange(1, 7)]
        settings = some_settings(chance, rules)
        world, draw = World(settings, names), Draw(chance, names + ["zed"])
        self.says((f"world {settings_text(settings)} {' '.join(names)}", "ok"))
        for step in range(100):
            deed = draw.deed(world)
            told = answer(lambda: world.do(deed))
            if told[0] == "told":
                told = ("told", self.expected(deed, told[1]))
            self.assertEqual(answer(lambda: self.desk.say(deed_text(deed))), told)
            if step % 25 == 24:
                self.check_telling(world)
        return world

    def test_every_line_beside_a_world_that_does_the_same(self):
        for seed in range(12):
            for rules in RULE_SETS:
                self.run_lines(93 + seed, rules)

    def test_worlds_one_behind_another_and_desks_side_by_side(self):
        one, other = Desk(), Desk()
        for desk in (one, other):
            desk.say(f"world 3 2 5 4 20 {SOUND} ann bob")
        self.assertEqual(one.say("ask ann"), "1")
        self.assertEqual(other.say("ask bob"), "1")
        self.assertEqual((one.say("carry 1"), one.say("carry 2")), ("2", "yes"))
        self.assertEqual((one.say("note ann"), other.say("note ann")), ("took:1:0,0,20", "none"))
        self.assertEqual((one.say("left"), other.say("left")), ("1:0:60", "none"))
        self.desk = Desk()
        self.refuse(NoLine, "marks", "ask ann")

    def test_asked_again(self):
        world = self.run_lines(5, None)
        before = self.state()
        for again in range(2):
            self.assertEqual(self.state(), before)
            self.check_telling(world)


class Sound(Testing):
    def test_no_text_twice_and_the_texts_of_one_hand_rise(self):
        count = 0
        for seed in range(40):
            chance = random.Random(9500 + seed)
            names = NAMES[:chance.randrange(1, 7)]
            settings = some_settings(chance)
            world, draw = World(settings, names), Draw(chance, names)
            self.desk = Desk()
            self.desk.say(f"world {settings_text(settings)} {' '.join(names)}")
            texts = {name: [] for name in names}
            for step in range(150):
                deed = draw.deed(world)
                told = answer(lambda: self.desk.say(deed_text(deed)))
                answer(lambda: world.do(deed))
                if deed[0] == "make" and told[0] == "told":
                    texts[deed[1]].append(told[1])
            every = sum(texts.values(), [])
            self.assertEqual(len(every), len(set(every)))
            for name in names:
                self.assertEqual(texts[name], sorted(texts[name]))
                self.assertEqual([read(text) for text in texts[name]],
                                 [mark for mark, maker in told_by(world)[0] if maker == name])
            count += len(every)
        self.assertGreater(count, 500)


class Interface(unittest.TestCase):
    def test_arguments_by_name(self):
        desk = Desk()
        self.assertEqual(desk.say(line="world 1 1 0 1 1 none ann"), "ok")
        self.assertIs(type(desk.say("place ann")), str)


if __name__ == "__main__":
    unittest.main()
