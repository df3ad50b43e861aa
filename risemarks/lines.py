"""The lines that a desk is told, read word by word."""

from risemarks.codes import read
from risemarks.errors import NoCode, NoLine, NoText
from risemarks.shapes import is_name, is_number
from risemarks.words import need, read_deed, read_number, read_numbers, read_parts, read_rules, words_of

FORMS = {
    "marks": (),
    "parts": ("mark",),
    "who": ("mark",),
    "chain": ("mark", "mark"),
    "left": (),
    "note": ("name",),
    "place": ("name",),
}
MOST_NAMES = 6
MOST_MOMENTS = 4
MOST_AREAS = 2


def read_name(word):
    need(is_name(word))
    return word


def read_names(words):
    names = [read_name(word) for word in words]
    need(1 <= len(names) and len(names) <= MOST_NAMES)
    need(len(set(names)) == len(names))
    return names


def read_stretch(word):
    moments = read_numbers(word.split("-"))
    need(len(moments) == 2)
    need(is_number(moments[1]) and moments[0] < moments[1])
    return (0, moments[0], moments[1])


def read_moments(word):
    moments = read_number(word)
    need(1 <= moments and moments <= MOST_MOMENTS)
    return moments


def read_world(words):
    return ("world", read_parts(words[:6]), read_names(words[6:]))


def read_look(words):
    need(len(words) >= 6 and len(words) <= 5 + MOST_AREAS)
    numbers = read_numbers(words[:3])
    # One slot and the term 1 are not written.
    parts = (numbers[0], 1, numbers[1], numbers[2], 1, read_rules(words[3]))
    return ("look", parts, read_moments(words[4]), [read_stretch(word) for word in words[5:]])


def read_asked(word, others):
    kinds = FORMS[word]
    need(len(others) == len(kinds))
    things = [read(other) if kind == "mark" else read_name(other) for other, kind in zip(others, kinds)]
    return (word,) + tuple(things)


def read_words(text):
    words = words_of(text)
    if words[0] == "world":
        return read_world(words[1:])
    if words[0] == "look":
        return read_look(words[1:])
    if words[0] in FORMS:
        return read_asked(words[0], words[1:])
    return ("do", read_deed(text))


def read_told(line):
    try:
        return read_words(line)
    except (NoText, NoCode):
        raise NoLine("this is no line of a desk") from None
