"""Tests of allwhotalk.errors."""

import unittest

from allwhotalk.errors import TalkError, TextError


class TalkErrorTest(unittest.TestCase):
    def test_is_a_value_error_with_a_reason(self):
        error = TalkError("no service")
        self.assertIsInstance(error, ValueError)
        self.assertEqual(error.reason, "no service")

    def test_is_no_text_error(self):
        self.assertNotIsInstance(TalkError("no service"), TextError)

    def test_is_caught_as_a_value_error(self):
        with self.assertRaises(ValueError):
            raise TalkError("no link")


class TextErrorTest(unittest.TestCase):
    def test_is_a_talk_error_with_line_and_reason(self):
        error = TextError(3, "unexpected")
        self.assertIsInstance(error, TalkError)
        self.assertIsInstance(error, ValueError)
        self.assertEqual(error.line, 3)
        self.assertEqual(error.reason, "unexpected")

    def test_is_caught_as_a_talk_error(self):
        with self.assertRaises(TalkError) as caught:
            raise TextError(0, "too short")
        self.assertEqual((caught.exception.line, caught.exception.reason), (0, "too short"))


if __name__ == "__main__":
    unittest.main()
