"""The errors of the interface: their classes, their words and their numbers."""

import unittest

from leakpost import errors
from leakpost.errors import LeakError

NAMES = (
    "BadName", "BadWord", "BadAct", "BadScene", "BadWish", "BadBody", "BadAtom", "BadDeed", "BadText",
    "Taken", "Full", "Heavy", "NoMachine", "NoRow", "NoMove", "NoLetter", "NoLab", "NoWish", "NoDeed",
)
CLASSES = [getattr(errors, name) for name in NAMES]


class TestErrors(unittest.TestCase):
    def test_there_are_nineteen_of_their_names(self):
        self.assertEqual(len(CLASSES), 19)
        for name, kind in zip(NAMES, CLASSES):
            self.assertEqual(kind.__name__, name)
            self.assertEqual(kind.__module__, "leakpost.errors")

    def test_there_are_no_others(self):
        found = [name for name, thing in vars(errors).items() if isinstance(thing, type)]
        self.assertEqual(sorted(found), sorted(NAMES + ("LeakError",)))

    def test_leak_error_stands_straight_under_value_error(self):
        self.assertEqual(LeakError.__bases__, (ValueError,))

    def test_each_stands_straight_under_leak_error(self):
        for kind in CLASSES:
            self.assertEqual(kind.__bases__, (LeakError,))

    def test_none_stands_under_another(self):
        for one in CLASSES:
            for other in CLASSES:
                self.assertEqual(issubclass(one, other), one is other)

    def test_word_is_the_name_in_small_letters(self):
        for name, kind in zip(NAMES, CLASSES):
            self.assertEqual(kind().word, name.lower())
            self.assertEqual(kind(7).word, name.lower())
        self.assertEqual(LeakError().word, "leakerror")
        self.assertEqual(LeakError(7).word, "leakerror")

    def test_at_left_out_is_minus_one(self):
        for kind in CLASSES + [LeakError]:
            self.assertEqual(kind().at, -1)

    def test_at_told(self):
        for kind in CLASSES + [LeakError]:
            for at in (0, 1, 7, 10 ** 29, -1):
                self.assertEqual(kind(at).at, at)
                self.assertEqual(kind(at=at).at, at)

    def test_each_is_caught_as_itself_a_leak_error_and_a_value_error(self):
        for kind in CLASSES:
            for wide in (kind, LeakError, ValueError):
                with self.assertRaises(wide) as caught:
                    raise kind(3)
                self.assertEqual((caught.exception.word, caught.exception.at), (kind.__name__.lower(), 3))

    def test_word_and_at_are_the_objects_own(self):
        one, other = errors.Heavy(1), errors.Heavy(2)
        self.assertEqual((one.at, other.at), (1, 2))
        self.assertEqual(sorted(vars(one)), ["at", "word"])


if __name__ == "__main__":
    unittest.main()
