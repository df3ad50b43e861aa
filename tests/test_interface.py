"""The interface that the document tells: names, arguments and fields, over the whole program."""

import importlib
import inspect
import unittest

from risemarks.errors import RiseError
from risemarks.rules import Settings
from risemarks.shapes import Shape

FUNCTIONS = {
    "shapes": "is_whole(thing) is_number(thing) is_name(thing) mark_of(shape,moment,slot,count) parts_of(shape,mark) "
              "pair_of(shape)",
    "codes": "shown(mark) read(word)",
    "areas": "is_area(shape,thing) size_of(shape,area) has(shape,area,mark) nth(shape,area,rank) "
             "rank_of(shape,area,mark) are_apart(one,other)",
    "makers": "bound_of(place) raised(place,bound) next_place(shape,place) moment_at(area,place,reading) "
              "made(shape,far,area,place,reading)",
    "rules": "has_rule(settings,word)",
    "notes": "read_note(lines) greatest_taken(lines) short(lines)",
    "holders": "meeting(grants) holder_of(shape,grants,mark)",
    "letters": "is_letter(thing) for_whom(letter)",
    "deeds": "is_deed(thing) names_of(deed)",
    "knowing": "chain(journal,one,other) is_chain(journal,one,other,places)",
    "gaps": "made_in(shape,grants,marks) skipped(shape,area,marks) holes(shape,area,marks)",
    "looker": "look(small,most=400)",
    "shown": "is_closed(small,states) is_row(small,word,deeds) is_told(small,told)",
    "words": "read_number(word) rules_text(rules) read_rules(word) deed_text(deed) settings_text(settings) "
             "line_text(line) read_deed(text) read_settings(text) read_line(word)",
}
CLASSES = {
    "shapes.Shape(counts,slots)": "",
    "rules.Settings(shape,far,room,term,rules=None)": "",
    "hands.Hand(name,settings,lines=None)":
        "is_up() place() note() area() fall() rise() take(grant,area) write(reading) make(reading) hear(bound) tell() "
        "give_back()",
    "lender.Lender(settings,grants=None)": "lend(hand,least) free(grant,end) grants() free_at(slot)",
    "post.Post()": "send(letter) letter(number) sent() carry(number,hand,lender)",
    "world.World(settings,names)": "do(deed) marks() journal() grants() letters() hand_at(name)",
    "smalls.Small(settings,areas,moments)": "deeds() begin() after(state,deed) bad(state,deed)",
    "desk.Desk()": "say(line)",
}
PLAIN_ERRORS = "BadShape BadDeed BadMost NoCode NoText NoLine NoRoom NoArea Down Up TooMany".split()
ERRORS = ["BadSettings(word)", "Wait(reading)", "NoNote(moment)", "NoLetter(number)", "NoGrant(mark)", "NoHand(name)",
          "Overlap(one,other)"]


def found(module, name):
    return getattr(importlib.import_module("risemarks." + module), name)


def arguments(thing):
    return str(inspect.signature(thing)).replace(" ", "").replace("(self,", "(").replace("(self)", "()")


def parted(told):
    name, bracket, more = told.partition("(")
    return name, bracket + more


class Interface(unittest.TestCase):
    def test_functions(self):
        for module, functions in FUNCTIONS.items():
            for told in functions.split():
                name, more = parted(told)
                with self.subTest(f"{module}.{name}"):
                    self.assertEqual(arguments(found(module, name)), more)

    def test_classes_and_their_methods(self):
        for told, methods in CLASSES.items():
            name, more = parted(told)
            thing = found(*name.split("."))
            with self.subTest(name):
                self.assertTrue(inspect.isclass(thing))
                self.assertEqual(arguments(thing), more)
            for method in methods.split():
                name, more = parted(method)
                with self.subTest(name):
                    self.assertEqual(arguments(getattr(thing, name)), more)

    def test_values(self):
        self.assertEqual(found("shapes", "LAST"), 10 ** 30)
        self.assertEqual(found("codes", "SIGNS"), "0123456789abcdefghjkmnpqrstvwxyz")
        self.assertEqual(found("rules", "RULES"), ("ahead", "apart", "ends", "once", "spoken"))

    def test_fields(self):
        shape = Shape(3, 2)
        settings = Settings(shape, 5, 4, 20, ["once"])
        self.assertEqual((shape.counts, shape.slots), (3, 2))
        self.assertEqual((settings.shape, settings.far, settings.room, settings.term), (shape, 5, 4, 20))
        self.assertEqual(settings.rules, ("once",))
        hand = found("hands", "Hand")("ann", settings)
        self.assertEqual((hand.name, hand.settings), ("ann", settings))
        self.assertEqual(found("lender", "Lender")(settings).settings, settings)
        world = found("world", "World")(settings, ["ann"])
        self.assertEqual((world.settings, world.names), (settings, ["ann"]))
        small = found("smalls", "Small")(settings, [(0, 0, 2)], 2)
        self.assertEqual((small.settings, small.areas, small.moments), (settings, [(0, 0, 2)], 2))

    def test_errors(self):
        for name in PLAIN_ERRORS:
            self.assertEqual(found("errors", name).__bases__, (RiseError,))
            self.assertEqual(str(found("errors", name)("so")), "so")
        for told in ERRORS:
            name, more = parted(told)
            self.assertEqual(found("errors", name).__bases__, (RiseError,))
            self.assertEqual(arguments(found("errors", name)), more)
        self.assertEqual(RiseError.__bases__, (ValueError,))


if __name__ == "__main__":
    unittest.main()
