"""Points 91 and 92, and of the interface what it says of risemarks.words."""

import itertools
import random
import unittest

from odd_things import others
from risemarks.errors import BadSettings, BadShape, NoText
from risemarks.rules import RULES, Settings
from risemarks.shapes import LAST, Shape
from risemarks.words import (
    deed_text, line_text, read_deed, read_line, read_number, read_rules, read_settings, rules_text, settings_text)

NUMBERS = [0, 1, 9, 10, 11, 99, 100, 101, 10 ** 12, LAST - 1, LAST, LAST + 1, 10 ** 39, 10 ** 40 - 1]
RULE_SETS = [rules for count in range(6) for rules in itertools.combinations(RULES, count)]
DEEDS = {
    "ask ann": ("ask", "ann"), "carry 3": ("carry", 3), "make ann 40": ("make", "ann", 40),
    "news ann bob": ("news", "ann", "bob"), "write bob 0": ("write", "bob", 0), "back a": ("back", "a"),
    "fall abcdefgh": ("fall", "abcdefgh"), "rise rise": ("rise", "rise"), "news cid cid": ("news", "cid", "cid"),
    f"make zed {LAST}": ("make", "zed", LAST), f"carry {10 ** 40 - 1}": ("carry", 10 ** 40 - 1),
    "carry 1": ("carry", 1), "ask carry": ("ask", "carry"),
}
LINES = {
    "took:1:0,3,13": ("took", 1, (0, 3, 13)), "took:12:7,0,0": ("took", 12, (7, 0, 0)), "held:0": ("held", 0),
    "held:40": ("held", 40), "heard:0": ("heard", 0), "heard:17": ("heard", 17), "ends:1:0": ("ends", 1, 0),
    "ends:20:35": ("ends", 20, 35), f"took:1:{LAST + 1},5,{LAST + 5}": ("took", 1, (LAST + 1, 5, LAST + 5)),
    f"held:{10 ** 40 - 1}": ("held", 10 ** 40 - 1), "took:3:0,5,5": ("took", 3, (0, 5, 5)),
}
SIGNS = ["0", "1", " ", "+", "-", ":", ",", ".", "_", "a", "A", "\n", "\t", "\xb2", "\u0663", "/"]


def no_texts():
    return [thing for thing in others() if not isinstance(thing, str)] + [0, 1, 3, LAST]


def spoilt(text):
    """Texts with one sign left out, told twice, put in or put otherwise, and with blanks."""
    for place in range(len(text)):
        yield text[:place] + text[place + 1:]
        yield text[:place + 1] + text[place:]
        for sign in SIGNS:
            yield text[:place] + sign + text[place + 1:]
    for place, sign in itertools.product(range(len(text) + 1), SIGNS):
        yield text[:place] + sign + text[place:]
    yield from (text.upper(), text.title(), text + "\n", text + " " + text, text[::-1], "", " ", "  ")


def spoilt_words(text, sign=" "):
    """Texts with one word left out, told twice, put in or put otherwise."""
    words = text.split(sign)
    for place in range(len(words)):
        yield sign.join(words[:place] + words[place + 1:])
        yield sign.join(words[:place + 1] + words[place:])
        for word in ["0", "1", "-1", "+1", "01", "00", "1.0", "ann", "Ann", "none", "ahead", "abcdefghi", "",
                     str(10 ** 40)]:
            yield sign.join(words[:place] + [word] + words[place + 1:])
            yield sign.join(words[:place] + [word] + words[place:])
        if place:
            yield sign.join(words[:place - 1] + [words[place], words[place - 1]] + words[place + 1:])


class Testing(unittest.TestCase):
    def refuse(self, read, thing, kind=NoText):
        with self.assertRaises(kind, msg=repr(thing)) as taken:
            read(thing)
        self.assertIs(type(taken.exception), kind)
        return taken.exception

    def check_spoilt(self, read, write, text, more=()):
        """What is nearly the text is refused, or read as what is written just so."""
        for other in itertools.chain(spoilt(text), more):
            try:
                told = read(other)
            except NoText:
                continue
            self.assertEqual(write(told), other)


class Numbers(Testing):
    def test_their_figures(self):
        for number in NUMBERS:
            told = read_number(str(number))
            self.assertEqual((told, type(told)), (number, int))
        for number in range(1200):
            self.assertEqual(read_number(str(number)), number)

    def test_forty_figures_and_one_more(self):
        self.assertEqual(read_number("9" * 40), 10 ** 40 - 1)
        self.assertEqual(read_number("1" + "0" * 39), 10 ** 39)
        for word in ["1" + "0" * 40, "9" * 41, "1" * 5000]:
            self.refuse(read_number, word)

    def test_a_nought_ahead(self):
        for word in ["00", "01", "000", "0" * 40, "0" * 41, "010"]:
            self.refuse(read_number, word)

    def test_other_texts(self):
        for word in ["", " ", "+1", "-1", "-0", "1 ", " 1", "1 2", "1_0", "1.0", "1e3", "0x1", "ten", "one", "a",
                     "1a", "a1",
                     "1\n", "\n1", "1\t", "\xb2", "1\xb2", "\u0661", "\u0663\u0664", "\uff11", "1,0", "None", "True"]:
            self.refuse(read_number, word)

    def test_what_is_no_text(self):
        for thing in no_texts():
            self.refuse(read_number, thing)

    def test_one_word_each(self):
        for number in NUMBERS:
            self.check_spoilt(read_number, str, str(number))


class Rules(Testing):
    def test_all_sets_of_rules(self):
        texts = set()
        for rules in RULE_SETS:
            text = rules_text(rules)
            self.assertEqual(text, "+".join(rules) or "none")
            told = read_rules(text)
            self.assertEqual((told, type(told)), (rules, tuple))
            texts.add(text)
        self.assertEqual(len(texts), 32)
        self.assertEqual(rules_text(()), "none")
        self.assertEqual(rules_text(RULES), "ahead+apart+ends+once+spoken")

    def test_other_texts(self):
        for word in ["", " ", "+", "ahead+", "+ahead", "ahead++once", "ahead ", " ahead", "ahead once", "once+ahead",
                     "ahead+ahead", "spoken+once", "Ahead", "AHEAD", "none+ahead", "ahead+none", "none+none", "None",
                     "all",
                     "ahead+apart+ends+spoken+once", "ahead+apart+ends+once+spoken+spoken", "0", "far", "ahead,once",
                     "ahead+once\n", "ahead-once"]:
            self.refuse(read_rules, word)

    def test_the_words_in_another_order(self):
        for rules in RULE_SETS:
            for order in itertools.permutations(rules):
                if order != rules:
                    self.refuse(read_rules, "+".join(order))

    def test_what_is_no_text(self):
        for thing in no_texts() + [("ahead",), ["ahead"], RULES]:
            self.refuse(read_rules, thing)

    def test_one_word_each(self):
        for rules in RULE_SETS:
            self.check_spoilt(read_rules, rules_text, rules_text(rules))


class Deeds(Testing):
    def test_written_and_read_again(self):
        for text, deed in DEEDS.items():
            self.assertEqual(deed_text(deed), text)
            told = read_deed(text)
            self.assertEqual((told, type(told)), (deed, tuple))

    def test_other_texts(self):
        for text in [
            "", " ", "ask", "ask  ann", " ask ann", "ask ann ", "ask ann bob", "ask 3", "Ask ann", "ask Ann",
            "ask abcdefghi",
            "ask an1", "carry", "carry 0", "carry 03", "carry -1", "carry +1", "carry ann", "carry 3 4",
            "carry " + "1" * 41,
            "make ann", "make 40 ann", "make ann 040", "make ann -1", f"make ann {LAST + 1}", "make ann bob",
            "make ann 4 4",
            "write ann", f"write ann {LAST + 1}", "write", "news ann", "news ann bob cid", "news ann 3", "back",
            "back ann 1",
            "fall", "rise", "fall 1", "take 1", "hear 1", "grant ann 1", "ann ask", "3 carry", "ask\nann", "ask\tann",
            "ask ann\n", "make ann 4.0", "world", "marks", "make ann \u0663",
        ]:
            self.refuse(read_deed, text)

    def test_what_is_no_text(self):
        for thing in no_texts() + list(DEEDS.values()):
            self.refuse(read_deed, thing)

    def test_one_text_each(self):
        for text in DEEDS:
            self.check_spoilt(read_deed, deed_text, text, spoilt_words(text))


class SettingsTexts(Testing):
    def pack(self, settings):
        shape = settings.shape
        return (shape.counts, shape.slots, settings.far, settings.room, settings.term, settings.rules)

    def test_written_and_read_again(self):
        for parts, text in [
            ((3, 2, 5, 4, 20, None), "3 2 5 4 20 ahead+apart+ends+once+spoken"), ((1, 1, 0, 1, 1, ()),
                                                                                  "1 1 0 1 1 none"),
            ((1000, 1000, 10 ** 12, 10 ** 12, 10 ** 12, ["spoken", "ahead"]),
             "1000 1000 1000000000000 1000000000000 1000000000000 ahead+spoken"),
        ]:
            settings = Settings(Shape(parts[0], parts[1]), *parts[2:])
            self.assertEqual(settings_text(settings), text)
            told = read_settings(text)
            self.assertIs(type(told), Settings)
            self.assertEqual(self.pack(told), self.pack(settings))

    def test_by_chance(self):
        chance = random.Random(92)
        for again in range(200):
            shape = Shape(chance.randrange(1, 1001), chance.randrange(1, 1001))
            spans = [chance.randrange(1, 10 ** chance.randrange(1, 13)) for k in range(3)]
            settings = Settings(shape, *spans, chance.choice(RULE_SETS))
            self.assertEqual(self.pack(read_settings(settings_text(settings))), self.pack(settings))

    def test_other_texts(self):
        for text in [
            "", " ", "3 2 5 4 20", "3 2 5 4 ahead", "3 2 5 4 20 none none", "3 2 5 4 20 30 none", "3 2 5 4 20  none",
            " 3 2 5 4 20 none", "3 2 5 4 20 none ", "03 2 5 4 20 none", "3 2 5 4 20 once+ahead", "3 2 5 4 20 all",
            "3 2 5 4 none 20", "none 3 2 5 4 20", "-3 2 5 4 20 none", "3 +2 5 4 20 none", "3 2 5 4 20 None",
            "3 2 5 4 2O none",
            "3 2 5 4 20 ahead once", "3,2,5,4,20,none", "3 2 5 4 " + "1" * 41 + " none", "1" * 41 + " 2 5 4 20 none",
            "none",
        ]:
            self.refuse(read_settings, text)

    def test_out_of_their_bounds(self):
        for text in ["0 2 5 4 20 none", "1001 2 5 4 20 none", "3 0 5 4 20 none", "3 1001 5 4 20 none",
                     "9" * 40 + " 2 5 4 20 none", "0 0 0 0 0 none", f"0 2 {10 ** 13} 4 20 none"]:
            self.refuse(read_settings, text, BadShape)
        for text, word in [
            (f"3 2 {10 ** 12 + 1} 4 20 none", "far"), ("3 2 5 0 20 none", "room"), (f"3 2 5 {10 ** 12 + 1} 20 none",
                                                                                    "room"),
            ("3 2 5 4 0 none", "term"), (f"3 2 5 4 {10 ** 12 + 1} none", "term"), ("3 2 5 0 0 none", "room"),
            (f"3 2 {10 ** 13} 0 0 none", "far"), ("1000 1000 0 1 0 ahead", "term"), ("3 2 " + "9" * 40 + " 4 20 none",
                                                                                     "far"),
        ]:
            self.assertEqual(self.refuse(read_settings, text, BadSettings).word, word)

    def test_a_fault_of_the_words_goes_ahead(self):
        for text in ["0 2 5 4 20 once+ahead", "0 2 5 4 20", "0 2 05 4 20 none", "3 2 5 0 20 all", "3 2 5 0 20  none",
                     "3 2 5 4 0 none none", "0 0 0 0 0 ", "1001 2 5 4 x none", f"3 2 {10 ** 13} 0 -0 none",
                     "0 2 5 4 " + "1" * 41 + " none"]:
            self.refuse(read_settings, text)

    def test_what_is_no_text(self):
        for thing in no_texts() + [(3, 2, 5, 4, 20, ()), Settings(Shape(3, 2), 5, 4, 20)]:
            self.refuse(read_settings, thing)

    def test_one_text_each(self):
        for text in ["3 2 5 4 20 ahead+once", "1 1 0 1 1 none"]:
            for other in itertools.chain(spoilt(text), spoilt_words(text)):
                try:
                    told = read_settings(other)
                except (NoText, BadShape, BadSettings):
                    continue
                self.assertEqual(settings_text(told), other)


class Lines(Testing):
    def test_written_and_read_again(self):
        for text, line in LINES.items():
            self.assertEqual(line_text(line), text)
            told = read_line(text)
            self.assertEqual((told, type(told)), (line, tuple))

    def test_other_texts(self):
        for word in [
            "", " ", ":", "took", "held", "held:", ":3", "held:3:4", "held 3", "held:-1", "held:03", "held: 3",
            "held:3 ",
            " held:3", "Held:3", "hold:3", "held:x", "heard", "heard:", "heard:1:2", "heard:ann", "ends:1", "ends:0:3",
            "ends:1:", "ends::3", "ends:1:2:3", "ends:01:3", "ends:1:03", "ends:1,3", "took:1", "took:0:0,3,13",
            "took:1:",
            "took:1:0,3", "took:1:0,3,13,14", "took:1:0,13,3", "took:1:0,14,13", "took:1:0:3:13", "took:1:(0,3,13)",
            "took:1:0, 3,13", "took:1:0,03,13", "took:01:0,3,13", "took:1:-1,3,13", "took:1:,3,13", "took:1:0,,13",
            "hold:1:3", "end:1:3", "endss:1:3", ":1:3", "Ends:1:3", "take:1:0,3,13", "ends :1:3", "1:1:3",
            "Took:1:0,3,13",
            "took:1:0,3,", "took:1:a,3,13", "took:x:0,3,13", "took:1:0,3,13:", "took:1:0,3,13\n", "took:1:0;3;13",
            "held:" + "1" * 41, "took:1:0,0," + "1" * 41, "ends:" + "1" * 41 + ":3", "took:1:0,3,13 held:4", "none",
        ]:
            self.refuse(read_line, word)

    def test_first_at_the_end_and_one_about(self):
        self.assertEqual(read_line("took:1:0,12,13"), ("took", 1, (0, 12, 13)))
        self.assertEqual(read_line("took:1:0,13,13"), ("took", 1, (0, 13, 13)))
        self.refuse(read_line, "took:1:0,14,13")

    def test_numbers_above_last(self):
        for number in NUMBERS:
            self.assertEqual(read_line(f"held:{number}"), ("held", number))
            self.assertEqual(read_line(f"heard:{number}"), ("heard", number))
            self.assertEqual(read_line(f"ends:7:{number}"), ("ends", 7, number))
            self.assertEqual(read_line(f"took:7:{number},{number},{number}"), ("took", 7, (number, number, number)))
            if number:
                self.assertEqual(read_line(f"ends:{number}:4"), ("ends", number, 4))
                self.assertEqual(read_line(f"took:{number}:4,5,6"), ("took", number, (4, 5, 6)))

    def test_what_is_no_text(self):
        for thing in no_texts() + list(LINES.values()):
            self.refuse(read_line, thing)

    def test_one_word_each(self):
        for text in LINES:
            self.check_spoilt(read_line, line_text, text, itertools.chain(spoilt_words(text, ":"), spoilt_words(text,
                                                                                                                ",")))


class NothingIsChanged(Testing):
    def test_asked_again(self):
        settings = Settings(Shape(3, 2), 5, 4, 20, ["once", "ahead"])
        for again in range(3):
            self.assertEqual(settings_text(settings), "3 2 5 4 20 ahead+once")
            self.assertEqual(rules_text(settings.rules), "ahead+once")
            self.assertEqual(read_deed("ask ann"), ("ask", "ann"))
        thing = ["ask", "ann"]
        self.refuse(read_deed, thing)
        self.assertEqual(thing, ["ask", "ann"])

    def test_arguments_by_name(self):
        self.assertEqual(read_number(word="7"), 7)
        self.assertEqual(rules_text(rules=("once",)), "once")
        self.assertEqual(read_rules(word="once"), ("once",))
        self.assertEqual(deed_text(deed=("ask", "ann")), "ask ann")
        self.assertEqual(read_deed(text="ask ann"), ("ask", "ann"))
        self.assertEqual(settings_text(settings=read_settings(text="1 1 0 1 1 none")), "1 1 0 1 1 none")
        self.assertEqual(line_text(line=read_line(word="held:3")), "held:3")


if __name__ == "__main__":
    unittest.main()
