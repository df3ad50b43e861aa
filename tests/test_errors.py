"""Point 3 and the interface of risemarks.errors."""

import unittest

from risemarks import errors
from risemarks.errors import RiseError

PLAIN = [
    "BadShape", "BadDeed", "BadMost", "NoCode", "NoText", "NoLine", "NoRoom", "NoArea", "Down", "Up", "TooMany",
]
WITH_FIELDS = {
    "BadSettings": ["word"],
    "Wait": ["reading"],
    "NoNote": ["moment"],
    "NoLetter": ["number"],
    "NoGrant": ["mark"],
    "NoHand": ["name"],
    "Overlap": ["one", "other"],
}
ALL = PLAIN + list(WITH_FIELDS)
VALUES = [
    0, 1, 31, 1000, 10 ** 30, 10 ** 30 + 1, -1, -(10 ** 30), 10 ** 5000, -(10 ** 5000),
    "", "a", "ann", "far", "two words", "line\n", "{", "{0}", "100%", "%s", "x" * 5000,
]


def class_of(name):
    return getattr(errors, name)


def one_of(name):
    if name in PLAIN:
        return class_of(name)("some words")
    return class_of(name)(*[7 + k for k, field in enumerate(WITH_FIELDS[name])])


class Standing(unittest.TestCase):
    def test_there_are_eighteen(self):
        self.assertEqual(len(ALL), 18)

    def test_rise_error_stands_straight_under_value_error(self):
        self.assertEqual(RiseError.__bases__, (ValueError,))

    def test_each_stands_straight_under_rise_error(self):
        for name in ALL:
            with self.subTest(name):
                self.assertEqual(class_of(name).__bases__, (RiseError,))
                self.assertEqual(class_of(name).__name__, name)

    def test_none_stands_under_another(self):
        for one in ALL:
            for other in ALL:
                with self.subTest(one=one, other=other):
                    self.assertEqual(issubclass(class_of(one), class_of(other)), one == other)

    def test_each_is_taken_as_a_rise_error_and_as_a_value_error(self):
        for name in ALL:
            for wider in (RiseError, ValueError, class_of(name)):
                with self.subTest(name, wider=wider):
                    with self.assertRaises(wider):
                        raise one_of(name)

    def test_an_object_is_of_its_own_class_alone(self):
        for name in ALL:
            kinds = [other for other in ALL if isinstance(one_of(name), class_of(other))]
            self.assertEqual(kinds, [name])


class Words(unittest.TestCase):
    def test_rise_error_and_the_plain_ones_are_made_with_one_text(self):
        for name in ["RiseError"] + PLAIN:
            for text in ("", "some words", "100% {0}\n"):
                with self.subTest(name, text=text):
                    self.assertEqual(str(class_of(name)(text)), text)


class Fields(unittest.TestCase):
    def test_each_field_is_kept_whatever_number_or_text_it_is(self):
        for name, fields in WITH_FIELDS.items():
            for k, value in enumerate(VALUES):
                values = [value, VALUES[k - 1]][:len(fields)]
                made = class_of(name)(*values)
                for field, kept in zip(fields, values):
                    with self.subTest(name, field=field, k=k):
                        self.assertEqual(getattr(made, field), kept)
                        self.assertIs(type(getattr(made, field)), type(kept))

    def test_the_two_fields_of_overlap_are_not_changed_for_one_another(self):
        made = errors.Overlap(3, 5)
        self.assertEqual((made.one, made.other), (3, 5))
        made = errors.Overlap(5, 3)
        self.assertEqual((made.one, made.other), (5, 3))

    def test_the_fields_are_arguments_by_name_too(self):
        for name, fields in WITH_FIELDS.items():
            made = class_of(name)(**{field: 7 + k for k, field in enumerate(fields)})
            self.assertEqual([getattr(made, field) for field in fields], [7, 8][:len(fields)])

    def test_they_are_made_with_these_alone(self):
        for name, fields in WITH_FIELDS.items():
            for few_or_many in ([], [1] * (len(fields) + 1)):
                with self.subTest(name, count=len(few_or_many)):
                    with self.assertRaises(TypeError):
                        class_of(name)(*few_or_many)

    def test_words_can_be_shown_whatever_the_fields_are(self):
        for name, fields in WITH_FIELDS.items():
            for value in VALUES:
                made = class_of(name)(*[value for field in fields])
                with self.subTest(name):
                    self.assertIsInstance(str(made), str)
                    self.assertIsInstance(repr(made), str)


if __name__ == "__main__":
    unittest.main()
