"""Points 71 to 73, point 2 as far as chains go, and the interface of risemarks.knowing."""

import itertools
import random
import unittest

from risemarks.knowing import chain, is_chain
from risemarks.world import World
from worlds import RULE_SETS, Draw, answer, some_settings, some_worlds


def made_at(journal, mark):
    return [place for place, (deed, told) in enumerate(journal) if deed[0] == "make" and told == mark]


def all_chains(journal, one, other):
    """Every chain, by trying every pair of places behind one another."""
    firsts, lasts = made_at(journal, one), made_at(journal, other)
    if one == other or len(firsts) != 1 or len(lasts) != 1:
        return []
    found = []

    def go_on(places, hand):
        if hand == journal[lasts[0]][0][1] and places[-1] < lasts[0]:
            found.append(places + lasts)
        for news in range(places[-1] + 1, len(journal)):
            deed, number = journal[news]
            if deed[0] != "news" or deed[1] != hand:
                continue
            for carry in range(news + 1, len(journal)):
                if journal[carry][0] == ("carry", number):
                    go_on(places + [news, carry], deed[2])

    go_on(firsts, journal[firsts[0]][0][1])
    return found


def knew(journal, one, other):
    """Whether the hand that made the other mark knew the one then, by walking through the journal once."""
    known, letters = {}, {}
    for deed, told in journal:
        if deed[0] == "news":
            letters[told] = (deed[2], set(known.get(deed[1], ())))
        elif deed[0] == "carry" and deed[1] in letters:
            to, marks = letters[deed[1]]
            known.setdefault(to, set()).update(marks)
        elif deed[0] == "make":
            if told == other:
                return one in known.get(deed[1], ())
            known.setdefault(deed[1], set()).add(told)
    return False


def drawn_journal(chance, length, hands, marks):
    """A journal of makes, news and carries, with other letters and falls between; marks may come again."""
    journal, sent = [], 0
    names = ["ann", "bob", "cid", "dan"][:hands]
    for step in range(length):
        kind = chance.choice(["make", "make", "news", "news", "carry", "carry", "carry", "ask", "fall"])
        name = chance.choice(names)
        if kind == "make":
            journal.append((("make", name, 3), chance.randrange(marks)))
        elif kind == "carry" and sent:
            journal.append((("carry", chance.randrange(1, sent + 1)), None))
        elif kind in ("news", "ask"):
            sent += 1
            journal.append((("news", name, chance.choice(names)) if kind == "news" else ("ask", name), sent))
        elif kind == "fall":
            journal.append((("fall", name), None))
    return journal


def spoilt(chance, places, length):
    """Lists of places that are nearly the handed one."""
    for k in range(len(places)):
        yield places[:k] + places[k + 1:]
        yield places[:k] + [places[k]] + places[k:]
        for more in (-1, 1, -length, length):
            yield places[:k] + [places[k] + more] + places[k + 1:]
        yield places[:k] + [chance.randrange(length)] + places[k:]
    for k in range(len(places) - 1):
        yield places[:k] + [places[k + 1], places[k]] + places[k + 2:]
        yield places[:k] + places[k + 2:]
        yield places[:k] + sorted(chance.randrange(-1, length + 1) for again in range(2)) + places[k:]
    yield places[::-1]
    yield []


# ann makes 10 and 11, tells bob; bob makes 20, hears, makes 21, tells cid; cid hears, makes 30.
JOURNAL = [
    (("make", "ann", 0), 10), (("make", "bob", 0), 20), (("news", "ann", "bob"), 1), (("make", "ann", 0), 11),
    (("carry", 1), None), (("make", "bob", 0), 21), (("news", "bob", "cid"), 2), (("carry", 1), None),
    (("carry", 2), None), (("make", "cid", 0), 30), (("make", "bob", 0), 22),
]


class Chains(unittest.TestCase):
    def test_within_one_hand(self):
        self.assertEqual(chain(JOURNAL, 10, 11), [0, 3])
        self.assertEqual(chain(JOURNAL, 20, 21), [1, 5])
        self.assertEqual(chain(JOURNAL, 20, 22), [1, 10])
        self.assertIsNone(chain(JOURNAL, 11, 10))
        self.assertIsNone(chain(JOURNAL, 22, 21))

    def test_over_one_letter(self):
        self.assertEqual(chain(JOURNAL, 10, 21), [0, 2, 4, 5])
        self.assertIn(chain(JOURNAL, 10, 22), [[0, 2, 4, 10], [0, 2, 7, 10]])
        self.assertEqual(chain(JOURNAL, 20, 30), [1, 6, 8, 9])
        self.assertEqual(chain(JOURNAL, 21, 30), [5, 6, 8, 9])

    def test_over_two_letters(self):
        self.assertEqual(chain(JOURNAL, 10, 30), [0, 2, 4, 6, 8, 9])

    def test_where_there_is_none(self):
        # Made behind the sending, made ahead of the reading, and the other way about.
        for one, other in [(11, 21), (11, 22), (11, 30), (10, 20), (20, 10), (20, 11), (30, 22), (22, 30), (21, 11)]:
            self.assertIsNone(chain(JOURNAL, one, other))
            for places in [[made_at(JOURNAL, one)[0], made_at(JOURNAL, other)[0]], [], [0, 2, 4, 5]]:
                self.assertIs(is_chain(JOURNAL, one, other, places), False)

    def test_over_many_hands(self):
        names = ["ann", "bob", "cid", "dan", "eve", "fay"]
        journal = [(("make", "ann", 0), 100)]
        for number, (name, to) in enumerate(zip(names, names[1:]), start=1):
            journal += [(("news", name, to), number), (("carry", number), None)]
        journal.append((("make", "fay", 0), 600))
        self.assertEqual(chain(journal, 100, 600), list(range(12)))
        self.assertIs(is_chain(journal, 100, 600, list(range(12))), True)
        # With a shorter one behind it, the shorter one is told.
        journal[-1:] = [(("news", "ann", "fay"), 6), (("carry", 6), None), (("make", "fay", 0), 600)]
        self.assertEqual(chain(journal, 100, 600), [0, 11, 12, 13])
        self.assertIs(is_chain(journal, 100, 600, list(range(11)) + [13]), True)

    def test_a_longer_way_that_comes_earlier(self):
        # cid knows it by one letter late, by two letters early; dan hears of it only by what cid sent between.
        journal = [
            (("make", "ann", 0), 10), (("news", "ann", "cid"), 1), (("news", "ann", "bob"), 2), (("carry", 2), None),
            (("news", "bob", "cid"), 3), (("carry", 3), None), (("news", "cid", "dan"), 4), (("carry", 1), None),
            (("carry", 4), None), (("make", "dan", 0), 40), (("make", "cid", 0), 30),
        ]
        self.assertEqual(chain(journal, 10, 40), [0, 2, 3, 4, 5, 6, 8, 9])
        self.assertEqual(chain(journal, 10, 30), [0, 1, 7, 10])

    def test_a_letter_read_twice_or_late(self):
        journal = [
            (("make", "ann", 0), 10), (("news", "ann", "bob"), 1), (("carry", 1), None), (("make", "bob", 0), 20),
            (("carry", 1), None), (("make", "bob", 0), 21),
        ]
        self.assertEqual(chain(journal, 10, 20), [0, 1, 2, 3])
        self.assertIs(is_chain(journal, 10, 21, [0, 1, 2, 5]), True)
        self.assertIs(is_chain(journal, 10, 21, [0, 1, 4, 5]), True)
        self.assertIs(is_chain(journal, 10, 20, [0, 1, 4, 3]), False)
        self.assertIn(chain(journal, 10, 21), [[0, 1, 2, 5], [0, 1, 4, 5]])

    def test_a_letter_that_was_never_read(self):
        journal = [(("make", "ann", 0), 10), (("news", "ann", "bob"), 1), (("make", "bob", 0), 20)]
        self.assertIsNone(chain(journal, 10, 20))
        self.assertIs(is_chain(journal, 10, 20, [0, 1, 1, 2]), False)

    def test_news_of_a_hand_to_itself(self):
        journal = [
            (("make", "ann", 0), 10), (("news", "ann", "ann"), 1), (("carry", 1), None), (("make", "ann", 0), 11),
        ]
        self.assertEqual(chain(journal, 10, 11), [0, 3])
        self.assertIs(is_chain(journal, 10, 11, [0, 3]), True)
        self.assertIs(is_chain(journal, 10, 11, [0, 1, 2, 3]), True)

    def test_pairs_within_one_hand_over_another(self):
        journal = [
            (("make", "ann", 0), 10), (("news", "ann", "bob"), 1), (("carry", 1), None), (("news", "bob", "ann"), 2),
            (("carry", 2), None), (("make", "ann", 0), 11),
        ]
        self.assertEqual(chain(journal, 10, 11), [0, 5])
        self.assertIs(is_chain(journal, 10, 11, [0, 1, 2, 3, 4, 5]), True)
        self.assertIs(is_chain(journal, 10, 11, [0, 1, 2, 5]), False)
        self.assertIs(is_chain(journal, 10, 11, [0, 3, 4, 5]), False)

    def test_falls_change_nothing(self):
        journal = list(JOURNAL)
        for place in (9, 6, 4, 1):
            journal[place:place] = [(("fall", "bob"), None), (("rise", "bob"), None)]
        for one, other in itertools.permutations([10, 11, 20, 21, 22, 30], 2):
            old, new = chain(JOURNAL, one, other), chain(journal, one, other)
            self.assertEqual(old is None, new is None)
            if old:
                self.assertEqual(len(old), len(new))

    def test_marks_not_made_made_twice_and_alike(self):
        twice = JOURNAL + [(("make", "ann", 0), 10)]
        again = JOURNAL + [(("make", "cid", 0), 30)]
        for journal, one, other in [
            (JOURNAL, 10, 10), (JOURNAL, 10, 99), (JOURNAL, 99, 10), (JOURNAL, 99, 98), (JOURNAL, 99, 99),
            (twice, 10, 21), (twice, 10, 11), (again, 10, 30), (again, 21, 30), ([], 1, 2), (JOURNAL, -1, 10),
            (JOURNAL, 1, 2), (JOURNAL, 2, 1), (JOURNAL, 0, 10),
        ]:
            self.assertIsNone(chain(journal, one, other))
            for places in ([0, 3], [0, 2, 4, 5], [0, 2, 4, 6, 8, 9], [5, 6, 8, 9], [0], [], [0, 0], [2, 6]):
                self.assertIs(is_chain(journal, one, other, places), False)

    def test_numbers_that_other_deeds_are_answered_with(self):
        # The mark 2 is not made by the news that are answered with 2, nor by a write.
        journal = [
            (("make", "ann", 0), 1), (("write", "ann", 0), 2), (("news", "ann", "ann"), 2), (("carry", 2), None),
            (("carry", 1), True), (("make", "ann", 0), 5),
        ]
        self.assertIsNone(chain(journal, 1, 2))
        self.assertEqual(chain(journal, 1, 5), [0, 5])
        self.assertIsNone(chain(journal, 2, 5))

    def test_a_carry_of_an_ask_of_the_same_hands(self):
        journal = [
            (("make", "ann", 0), 10), (("ask", "ann"), 1), (("carry", 1), 2), (("carry", 2), True),
            (("news", "ann", "bob"), 3), (("make", "bob", 0), 20),
        ]
        self.assertIsNone(chain(journal, 10, 20))
        for places in ([0, 1, 2, 5], [0, 4, 3, 5], [0, 3, 4, 5], [0, 4, 5], [0, 2, 3, 5]):
            self.assertIs(is_chain(journal, 10, 20, places), False)


class NearlyChains(unittest.TestCase):
    def test_lists_that_are_nearly_chains(self):
        self.assertIs(is_chain(JOURNAL, 10, 30, [0, 2, 4, 6, 8, 9]), True)
        for places in [
            [], [0], [9], [0, 9], [0, 2, 4, 9], [0, 6, 8, 9], [0, 2, 4, 6, 8], [2, 4, 6, 8, 9], [2, 4, 6, 8],
            [0, 2, 7, 6, 8, 9], [0, 4, 2, 6, 8, 9], [0, 2, 4, 8, 6, 9], [9, 8, 6, 4, 2, 0], [0, 2, 4, 6, 8, 10],
            [0, 2, 4, 6, 8, 8, 9], [0, 0, 2, 4, 6, 8, 9], [0, 2, 4, 6, 7, 9], [0, 2, 8, 6, 8, 9], [0, 1, 4, 6, 8, 9],
            [0, 2, 3, 6, 8, 9], [0, 2, 4, 5, 6, 8, 9], [1, 2, 4, 6, 8, 9], [-11, 2, 4, 6, 8, 9], [0, 2, 4, 6, 8, -2],
            [0, -9, 4, 6, 8, 9], [0, 2, 4, 6, 8, 20], [0, 2, 4, 6, 20, 9], [0, 2, 4, 6, 8, 9, 9],
            [0, 2, 4, 6, 8, 9, 10],
            [0, 6, 8, 2, 4, 9], [0, 2, 4, 2, 4, 6, 8, 9], [10 ** 40, 2, 4, 6, 8, 9], [0, 2, 4, 6, 8, 10 ** 40],
        ]:
            self.assertIs(is_chain(JOURNAL, 10, 30, places), False, places)

    def test_the_marks_put_otherwise(self):
        places = [0, 2, 4, 6, 8, 9]
        for one, other in itertools.product([-1, 0, 10, 11, 20, 21, 22, 30, 99], repeat=2):
            self.assertIs(is_chain(JOURNAL, one, other, places), (one, other) == (10, 30))

    def test_beside_all_chains_of_small_journals(self):
        told = none = 0
        for seed in range(400):
            chance = random.Random(72 + seed)
            journal = drawn_journal(chance, chance.randrange(4, 24), chance.randrange(1, 5), chance.choice([6, 30]))
            marks = sorted({answer for deed, answer in journal if deed[0] == "make"}) + [99]
            for one, other in itertools.product(marks, repeat=2):
                chains = all_chains(journal, one, other)
                found = chain(journal, one, other)
                for places in chains:
                    self.assertIs(is_chain(journal, one, other, places), True)
                if not chains:
                    self.assertIsNone(found)
                    none += 1
                    continue
                told += 1
                self.assertIn(found, chains)
                self.assertEqual(len(found), min(len(places) for places in chains))
                for places in [found, chains[-1]]:
                    for other_places in spoilt(chance, places, len(journal)):
                        good = other_places in chains
                        self.assertIs(is_chain(journal, one, other, other_places), good)
        self.assertGreater(min(told, none), 300)


class InWorlds(unittest.TestCase):
    def test_a_chain_is_there_just_where_the_hand_knew(self):
        known, longest = 0, 0
        for world, draw in some_worlds(73, [None, None] + RULE_SETS, 5):
            for step in range(150):
                answer(lambda: world.do(draw.deed(world)))
            journal = world.journal()
            marks = [mark for mark, name in world.marks()]
            for one, other in itertools.product(sorted(set(marks)), repeat=2):
                found = chain(journal, one, other)
                if one == other or marks.count(one) > 1 or marks.count(other) > 1:
                    self.assertIsNone(found)
                    continue
                self.assertEqual(found is not None, knew(journal, one, other))
                if found is not None:
                    known += 1
                    longest = max(longest, len(found))
                    self.assertIs(is_chain(journal, one, other, found), True)
                    if len(world.settings.rules) == 5:
                        self.assertLess(one, other)
        self.assertGreater(known, 1000)
        self.assertGreater(longest, 5)

    def test_a_long_journal(self):
        chance = random.Random(7)
        names = ["ann", "bob", "cid", "dan", "eve", "fay"]
        world = World(some_settings(chance), names)
        draw = Draw(chance, names)
        for step in range(500):
            answer(lambda: world.do(draw.deed(world)))
        marks = [mark for mark, name in world.marks()]
        journal = world.journal()
        for one, other in zip(marks, marks[1:]):
            found = chain(journal, one, other)
            self.assertEqual(found is not None, knew(journal, one, other))


class NothingIsChanged(unittest.TestCase):
    def test_what_is_handed_in_and_what_was_told(self):
        journal, places = list(JOURNAL), [0, 2, 4, 5]
        for again in range(3):
            told = chain(journal, 10, 21)
            self.assertEqual(told, [0, 2, 4, 5])
            self.assertIs(is_chain(journal, 10, 21, places), True)
            told.append(7)
            told[0] = 9
        self.assertEqual((journal, places), (JOURNAL, [0, 2, 4, 5]))

    def test_arguments_by_name(self):
        self.assertEqual(chain(other=21, one=10, journal=JOURNAL), [0, 2, 4, 5])
        self.assertIs(is_chain(places=[0, 3], other=11, one=10, journal=JOURNAL), True)


if __name__ == "__main__":
    unittest.main()
