"""What several tests ask of an answer or a refusal."""

import copy
import unittest

from sackloads.errors import SackError


def answer(asked, given):
    """What is told, or the name of the class that it is refused with."""
    try:
        return asked(*given)
    except SackError as error:
        return error.__class__.__name__


class Told(unittest.TestCase):
    def same(self, found, wanted):
        # By repr too, as to Python True equals 1.
        self.assertEqual(found, wanted)
        self.assertEqual(repr(found), repr(wanted))

    def refused(self, wanted, asked, *given):
        with self.subTest(asked=asked.__name__, given=given):
            kept = copy.deepcopy(given)
            with self.assertRaises(SackError) as caught:
                asked(*given)
            self.assertIs(caught.exception.__class__, wanted)
            self.same(given, kept)

    def nothing_changes(self, asked, given):
        with self.subTest(asked=asked.__name__, given=given):
            kept = copy.deepcopy(given)
            first = answer(asked, given)
            told = copy.deepcopy(first)
            self.same(given, kept)
            self.same(answer(asked, given), told)
            self.same(first, told)
