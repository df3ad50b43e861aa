"""Numbers, rules, deeds, settings and lines of notes, written as words and read again."""

from risemarks.areas import end_of, first_of
from risemarks.deeds import is_deed
from risemarks.errors import NoText
from risemarks.rules import RULES, Settings
from risemarks.shapes import Shape, pair_of

FIGURES = "0123456789"
MOST_FIGURES = 40
NO_RULES = "none"


def need(is_right):
    if not is_right:
        raise NoText("nothing is written so")


def words_of(text):
    need(isinstance(text, str))
    words = text.split(" ")
    need("" not in words)
    return words


def read_number(word):
    need(isinstance(word, str))
    need(1 <= len(word) and len(word) <= MOST_FIGURES)
    need(all([sign in FIGURES for sign in word]))
    need(word[0] != "0" or len(word) == 1)
    return int(word)


def read_numbers(words):
    return tuple([read_number(word) for word in words])


def rules_text(rules):
    return "+".join(rules) if len(rules) > 0 else NO_RULES


def read_rules(word):
    need(isinstance(word, str))
    if word == NO_RULES:
        return ()
    rules = word.split("+")
    need(all([rule in RULES for rule in rules]))
    # Sorted and none twice, so that each tuple has one word alone.
    need(rules == sorted(set(rules)))
    return tuple(rules)


def things_text(things, sign):
    return sign.join([str(thing) for thing in things])


def deed_text(deed):
    return things_text(deed, " ")


def read_thing(word):
    return read_number(word) if word[0] in FIGURES else word


def read_deed(text):
    deed = tuple([read_thing(word) for word in words_of(text)])
    need(is_deed(deed))
    return deed


def settings_text(settings):
    spans = (settings.far, settings.room, settings.term)
    return things_text(pair_of(settings.shape) + spans + (rules_text(settings.rules),), " ")


def read_parts(words):
    need(len(words) == 6)
    return read_numbers(words[:5]) + (read_rules(words[5]),)


def settings_of(parts):
    shape = Shape(parts[0], parts[1])
    return Settings(shape, parts[2], parts[3], parts[4], parts[5])


def read_settings(text):
    return settings_of(read_parts(words_of(text)))


def line_text(line):
    if line[0] == "took":
        return things_text((line[0], line[1], things_text(line[2], ",")), ":")
    return things_text(line, ":")


def read_area(word):
    area = read_numbers(word.split(","))
    need(len(area) == 3)
    need(first_of(area) <= end_of(area))
    return area


def read_grant(word):
    grant = read_number(word)
    need(grant >= 1)
    return grant


def read_line(word):
    need(isinstance(word, str))
    parts = word.split(":")
    if parts[0] in ("held", "heard"):
        need(len(parts) == 2)
        return (parts[0], read_number(parts[1]))
    need(parts[0] in ("took", "ends") and len(parts) == 3)
    grant = read_grant(parts[1])
    return (parts[0], grant, read_area(parts[2]) if parts[0] == "took" else read_number(parts[2]))
