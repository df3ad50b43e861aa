"""Point 32, and the interface of risemarks.notes."""

import copy
import itertools
import random
import unittest

from risemarks.notes import greatest_taken, read_note, short
from risemarks.shapes import LAST

# Small enough that all notes of a few of these lines can be tried.
LINES = [
    ("took", 1, (0, 2, 9)), ("took", 2, (1, 4, 7)), ("took", 1, (1, 3, 8)), ("ends", 1, 5), ("ends", 1, 1),
    ("ends", 2, 6), ("held", 3), ("held", 5), ("heard", 4), ("heard", 2),
]


def read_by_words(lines):
    """A note read as the point's words have it, one thing behind another."""
    tooks = [k for k, line in enumerate(lines) if line[0] == "took"]
    held = max([line[1] for line in lines if line[0] == "held"], default=0)
    heard = max([line[1] for line in lines if line[0] == "heard"], default=0)
    if not tooks:
        return (0, None, held, heard)
    kind, grant, (slot, first, end) = lines[tooks[-1]]
    behind = lines[tooks[-1] + 1:]
    ends = [line[2] for line in behind if line[0] == "ends" and line[1] == grant]
    return (grant, (slot, first, min([end] + ends)), held, heard)


def some_notes():
    """Notes of up to three lines, all of them, and longer ones by a fixed row of chances."""
    chance = random.Random(32)
    notes = [list(lines) for length in range(4) for lines in itertools.product(LINES, repeat=length)]
    for length in range(4, 40):
        for again in range(12):
            notes.append([chance.choice(LINES) for k in range(length)])
    for again in range(60):
        notes.append([a_line(chance) for k in range(chance.randrange(25))])
    return notes


def a_line(chance):
    kind = chance.choice(["took", "held", "heard", "ends"])
    if kind == "took":
        first = chance.choice([0, 3, 10, LAST - 5])
        return ("took", chance.randrange(1, 6), (chance.randrange(3), first, first + chance.randrange(6)))
    if kind == "ends":
        return ("ends", chance.randrange(1, 6), chance.choice([0, 1, 4, 5, 9, 12, LAST - 3, LAST + 1]))
    return (kind, chance.choice([0, 1, 2, 7, 10 ** 12, LAST, LAST + 9, 10 ** 60]))


class ReadNote(unittest.TestCase):
    def test_no_lines(self):
        self.assertEqual(read_note([]), (0, None, 0, 0))

    def test_without_a_took(self):
        self.assertEqual(read_note([("held", 7), ("heard", 3)]), (0, None, 7, 3))
        self.assertEqual(read_note([("ends", 1, 5)]), (0, None, 0, 0))
        self.assertEqual(read_note([("held", 0), ("heard", 0)]), (0, None, 0, 0))

    def test_one_took(self):
        told = read_note([("took", 3, (1, 5, 9))])
        self.assertEqual(told, (3, (1, 5, 9), 0, 0))
        self.assertEqual((type(told), type(told[1])), (tuple, tuple))

    def test_the_last_took_whatever_its_number(self):
        self.assertEqual(read_note([("took", 3, (1, 5, 9)), ("took", 4, (0, 9, 12))]), (4, (0, 9, 12), 0, 0))
        self.assertEqual(read_note([("took", 4, (0, 9, 12)), ("took", 3, (1, 5, 9))]), (3, (1, 5, 9), 0, 0))

    def test_one_grant_taken_again(self):
        took = ("took", 3, (1, 5, 9))
        self.assertEqual(read_note([took, took]), (3, (1, 5, 9), 0, 0))
        self.assertEqual(read_note([took, ("ends", 3, 6), took]), (3, (1, 5, 9), 0, 0))
        self.assertEqual(read_note([took, ("ends", 3, 6), took, ("ends", 3, 7)]), (3, (1, 5, 7), 0, 0))
        self.assertEqual(read_note([took, ("took", 3, (1, 7, 8))]), (3, (1, 7, 8), 0, 0))

    def test_ends_behind_the_last_took(self):
        took = ("took", 3, (1, 5, 9))
        for ends, end in [([6], 6), ([6, 8], 6), ([8, 6], 6), ([9], 9), ([10], 9), ([10, 7], 7), ([5], 5), ([2], 2),
                          ([0], 0), ([LAST + 1], 9)]:
            with self.subTest(ends=ends):
                lines = [took] + [("ends", 3, end) for end in ends]
                self.assertEqual(read_note(lines), (3, (1, 5, end), 0, 0))

    def test_ends_ahead_of_the_last_took_and_of_other_grants(self):
        took = ("took", 3, (1, 5, 9))
        self.assertEqual(read_note([("ends", 3, 6), took]), (3, (1, 5, 9), 0, 0))
        self.assertEqual(read_note([took, ("ends", 2, 6), ("ends", 4, 6)]), (3, (1, 5, 9), 0, 0))
        other = ("took", 2, (0, 5, 9))
        self.assertEqual(read_note([other, took, ("ends", 2, 6), ("ends", 3, 8)]), (3, (1, 5, 8), 0, 0))
        self.assertEqual(read_note([took, ("ends", 3, 6), other]), (2, (0, 5, 9), 0, 0))
        self.assertEqual(read_note([took, other, ("ends", 3, 6)]), (2, (0, 5, 9), 0, 0))

    def test_the_greatest_held_and_the_greatest_heard(self):
        for order in itertools.permutations([("held", 3), ("held", 8), ("heard", 9), ("heard", 2)]):
            self.assertEqual(read_note(list(order)), (0, None, 8, 9))
        self.assertEqual(read_note([("held", LAST + 10 ** 12)]), (0, None, LAST + 10 ** 12, 0))
        self.assertEqual(read_note([("heard", 10 ** 40)]), (0, None, 0, 10 ** 40))

    def test_a_took_does_not_change_what_is_held_and_heard(self):
        lines = [("held", 8), ("heard", 6), ("took", 1, (0, 0, 5)), ("held", 4), ("heard", 5), ("ends", 1, 3)]
        self.assertEqual(read_note(lines), (1, (0, 0, 3), 8, 6))

    def test_an_area_cut_to_nothing(self):
        self.assertEqual(read_note([("took", 1, (0, 5, 5))]), (1, (0, 5, 5), 0, 0))
        self.assertEqual(read_note([("took", 1, (0, 5, 5)), ("ends", 1, 7)]), (1, (0, 5, 5), 0, 0))

    def test_notes_of_any_lines_in_any_order(self):
        for lines in some_notes():
            self.assertEqual(read_note(lines), read_by_words(lines))

    def test_six_hundred_lines(self):
        lines = [("took", 1, (0, 0, 10 ** 6))]
        lines += [("held", k) for k in range(300)] + [("ends", 1, 999 - k) for k in range(299)]
        self.assertEqual(read_note(lines), (1, (0, 0, 701), 299, 0))


class GreatestTaken(unittest.TestCase):
    def test_without_a_took(self):
        self.assertEqual(greatest_taken([]), 0)
        self.assertEqual(greatest_taken([("held", 8), ("heard", 9), ("ends", 7, 1)]), 0)

    def test_the_greatest_of_all_tooks(self):
        for order in itertools.permutations([2, 5, 3]):
            self.assertEqual(greatest_taken([("took", grant, (0, 0, 1)) for grant in order]), 5)
        self.assertEqual(greatest_taken([("took", 4, (0, 0, 1)), ("ends", 9, 1), ("held", 20)]), 4)
        self.assertEqual(greatest_taken([("took", 4, (0, 0, 1)), ("took", 4, (0, 0, 1))]), 4)


class Short(unittest.TestCase):
    def test_it_has_at_most_five_lines_of_the_four_kinds(self):
        for lines in some_notes():
            told = short(lines)
            self.assertIs(type(told), list)
            self.assertLessEqual(len(told), 5)
            for line in told:
                self.assertIs(type(line), tuple)
                self.assertEqual(len(line), {"took": 3, "ends": 3, "held": 2, "heard": 2}[line[0]])
                if line[0] == "took":
                    self.assertLessEqual(line[2][1], line[2][2])

    def test_alone_it_reads_as_the_note_does(self):
        for lines in some_notes():
            told = short(lines)
            self.assertEqual(read_note(told), read_by_words(lines))
            self.assertEqual(greatest_taken(told), greatest_taken(lines))

    def test_with_further_lines_behind_both(self):
        behinds = [[line] for line in LINES] + [[one, other] for one in LINES for other in LINES]
        for lines in some_notes()[::5]:
            told = short(lines)
            for behind in behinds:
                self.assertEqual(read_note(told + behind), read_by_words(lines + behind))
                self.assertEqual(greatest_taken(told + behind), greatest_taken(lines + behind))

    def test_with_many_lines_behind_both(self):
        chance = random.Random(5)
        for lines in some_notes()[::7]:
            behind = [a_line(chance) for k in range(chance.randrange(12))]
            self.assertEqual(read_note(short(lines) + behind), read_by_words(lines + behind))
            self.assertEqual(greatest_taken(short(lines) + behind), greatest_taken(lines + behind))

    def test_made_short_again_and_between(self):
        for lines in some_notes()[::11]:
            told = short(lines)
            self.assertEqual(read_note(short(told)), read_note(lines))
            half = short(short(lines[:len(lines) // 2]) + lines[len(lines) // 2:])
            self.assertEqual(read_note(half), read_note(lines))
            self.assertEqual(greatest_taken(half), greatest_taken(lines))

    def test_the_greatest_grant_is_not_the_last_one(self):
        lines = [("took", 5, (0, 0, 4)), ("took", 2, (1, 4, 8)), ("ends", 2, 6), ("held", 7), ("heard", 3)]
        told = short(lines)
        self.assertEqual(read_note(told), (2, (1, 4, 6), 7, 3))
        self.assertEqual(greatest_taken(told), 5)
        self.assertEqual(read_note(told + [("ends", 5, 1)]), (2, (1, 4, 6), 7, 3))
        self.assertEqual(read_note(told + [("took", 2, (1, 4, 8))]), (2, (1, 4, 8), 7, 3))

    def test_the_least_numbers(self):
        for held, heard, end in itertools.product((0, 1, 2), repeat=3):
            lines = [("took", 1, (0, 0, 2)), ("held", held), ("heard", heard), ("ends", 1, end)]
            self.assertEqual(read_note(short(lines)), (1, (0, 0, end), held, heard))

    def test_of_no_lines(self):
        self.assertEqual(read_note(short([])), (0, None, 0, 0))
        self.assertEqual(greatest_taken(short([])), 0)


class NothingIsChanged(unittest.TestCase):
    def test_what_is_handed_in_stays_as_it_was(self):
        for lines in some_notes()[::9]:
            before = copy.deepcopy(lines)
            read_note(lines)
            greatest_taken(lines)
            short(lines)
            self.assertEqual(lines, before)

    def test_what_was_told_may_be_changed(self):
        for lines in ([], [("took", 1, (0, 0, 5))], [("held", 4)], LINES):
            lines = list(lines)
            before = list(lines)
            told = short(lines)
            first = list(told)
            told.append(("held", 10 ** 6))
            told[0] = ("took", 77, (0, 0, 1))
            self.assertEqual(lines, before)
            self.assertEqual(short(lines), first)

    def test_a_short_note_stays_where_the_lines_are_changed(self):
        lines = [("took", 1, (0, 0, 5)), ("held", 4)]
        told = short(lines)
        lines.append(("held", 9))
        lines[0] = ("took", 2, (1, 1, 2))
        self.assertEqual(read_note(told), (1, (0, 0, 5), 4, 0))


if __name__ == "__main__":
    unittest.main()
