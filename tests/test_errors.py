"""[4] errors, and what [2] says of them."""

import unittest

from deskcards import errors

WITH_WORD = ("InvalidRow", "InvalidTool", "InvalidTerms")
WITH_AT = ("InvalidText", "InvalidEvent", "InvalidSeen", "Refused")
BARE = ("InvalidFault", "InvalidCommand")


class Errors(unittest.TestCase):
    def test_the_base_class(self):
        self.assertEqual(errors.CardError.__bases__, (ValueError,))

    def test_direct_subclasses(self):
        for name in WITH_WORD + WITH_AT + BARE:
            with self.subTest(name):
                self.assertEqual(getattr(errors, name).__bases__, (errors.CardError,))

    def test_no_row_is_an_index_error(self):
        self.assertEqual(errors.NoRow.__bases__, (IndexError,))
        self.assertFalse(issubclass(errors.NoRow, errors.CardError))

    def test_all_errors_are_defined_here(self):
        for name in ("CardError", "NoRow") + WITH_WORD + WITH_AT + BARE:
            self.assertEqual(getattr(errors, name).__module__, "deskcards.errors")

    def test_arguments_are_kept_themselves(self):
        for kept in ([1, 2], {"a": 1}, object(), None, "word", (), 1.5):
            for name in WITH_WORD:
                with self.subTest(name):
                    self.assertIs(getattr(errors, name)(kept).word, kept)
                    self.assertIs(getattr(errors, name)(word=kept).word, kept)
            for name in WITH_AT + ("NoRow",):
                with self.subTest(name):
                    self.assertIs(getattr(errors, name)(kept).at, kept)
                    self.assertIs(getattr(errors, name)(at=kept).at, kept)

    def test_kept_lists_stay_the_same_lists(self):
        kept = [1]
        error = errors.InvalidText(kept)
        kept.append(2)
        self.assertEqual(error.at, [1, 2])

    def test_errors_without_arguments(self):
        for name in BARE:
            with self.subTest(name):
                with self.assertRaises(getattr(errors, name)):
                    raise getattr(errors, name)()

    def test_errors_can_be_raised_and_caught(self):
        with self.assertRaises(errors.CardError) as caught:
            raise errors.InvalidEvent(3)
        self.assertEqual(caught.exception.at, 3)
        with self.assertRaises(IndexError) as caught:
            raise errors.NoRow(-1)
        self.assertEqual(caught.exception.at, -1)

    def test_errors_are_not_iterable(self):
        for error in (errors.CardError(), errors.InvalidRow("word"), errors.InvalidFault(), errors.NoRow(0)):
            with self.assertRaises(TypeError):
                iter(error)


if __name__ == "__main__":
    unittest.main()
