"""[0.4] and the interface's beadhall/errors.py: the eight classes of refusals."""

import unittest

from beadhall import errors

WORDS_ALONE = ["HallError", "Unlike", "BadNet", "TooWide"]
WITH_ROW = ["BadText", "BadAsk", "BadPaper"]
REFUSALS = ["Unlike", "BadNet", "BadText", "NoGo", "TooWide", "BadAsk", "BadPaper"]


def made(name):
    kind = getattr(errors, name)
    if name in WORDS_ALONE:
        return kind("some words")
    return kind("some words", 7)


class ErrorsTest(unittest.TestCase):
    def test_each_is_taken_as_itself_as_hall_error_and_as_value_error(self):
        for name in REFUSALS:
            for taken in (getattr(errors, name), errors.HallError, ValueError):
                with self.subTest(name=name, taken=taken.__name__):
                    with self.assertRaises(taken):
                        raise made(name)

    def test_hall_error_is_taken_as_value_error(self):
        with self.assertRaises(ValueError):
            raise made("HallError")

    def test_none_is_taken_as_another_one(self):
        for name in REFUSALS:
            for other in REFUSALS:
                if other != name:
                    with self.subTest(name=name, other=other):
                        self.assertNotIsInstance(made(name), getattr(errors, other))

    def test_hall_error_and_value_error_are_none_of_the_others(self):
        for name in REFUSALS:
            with self.subTest(name=name):
                self.assertNotIsInstance(made("HallError"), getattr(errors, name))
        self.assertNotIsInstance(ValueError("some words"), errors.HallError)

    def test_row_is_kept(self):
        for name in WITH_ROW:
            for row in (0, 1, 12, 10 ** 30):
                with self.subTest(name=name, row=row):
                    self.assertEqual(getattr(errors, name)("some words", row).row, row)

    def test_row_and_at_may_be_handed_in_by_name(self):
        for name in WITH_ROW:
            with self.subTest(name=name):
                self.assertEqual(getattr(errors, name)(words="some words", row=3).row, 3)
        self.assertEqual(errors.NoGo(words="some words", at=3).at, 3)

    def test_at_is_kept(self):
        for at in (0, 1, 12, 10 ** 30):
            with self.subTest(at=at):
                self.assertEqual(errors.NoGo("some words", at).at, at)


if __name__ == "__main__":
    unittest.main()
