import unittest
from itertools import product

from helpers import (NO_NUMBERS, NO_SEQUENCES, NO_WORDS, Anything, Raises, all_words, slow_verdict, small_strips,
                     wide_strips)
from slitstairs.errors import BadStrip, BadVerdict
from slitstairs.verdicts import VERDICTS, has_verdict

NO_VERDICTS = (*NO_NUMBERS, "Follows", "follow", "open", ["follows"], ("opens",), Anything(), "followsstuck")


class VerdictsTest(Raises, unittest.TestCase):
    def test_the_words(self):
        self.assertEqual(VERDICTS, ("follows", "stuck", "opens", "sways", "parted"))

    def test_by_hand(self):
        told = {("ddoo",): "follows opens", ("dododo",): "stuck sways", ("ddoododo", "dododdoo"): "stuck opens parted",
                ("dododo", "ddoodo"): "follows opens"}
        for strip, words in told.items():
            for verdict in VERDICTS:
                self.assertIs(has_verdict(strip, verdict), verdict in words.split())
                self.assertIs(has_verdict(list(strip), verdict), verdict in words.split())

    def test_small_and_wide_strips(self):
        found = set()
        for strip in (*small_strips(), *wide_strips()):
            for verdict in VERDICTS:
                told = has_verdict(strip, verdict)
                self.assertIs(told, slow_verdict(strip, verdict))
                found.add((verdict, told))
        self.assertEqual(len(found), 10)

    def test_no_small_strip_is_parted(self):
        for size, width in ((1, 4), (2, 5), (3, 3)):
            for strip in product(all_words(size), repeat=width):
                self.assertIs(has_verdict(strip, "parted"), False)

    def test_wrong_verdicts(self):
        for thing in NO_VERDICTS:
            self.raises(BadVerdict, {"verdict": thing}, has_verdict, ("ddoo",), thing)
            self.raises(BadVerdict, {"verdict": thing}, has_verdict, None, thing)

    def test_wrong_strips(self):
        for verdict in VERDICTS:
            for thing in (*NO_SEQUENCES, (), []):
                self.raises(BadStrip, {"index": 0, "what": "strip"}, has_verdict, thing, verdict)
            for thing in NO_WORDS:
                self.raises(BadStrip, {"index": 1, "what": "word"}, has_verdict, ["ddoo", thing], verdict)
            self.raises(BadStrip, {"index": 1, "what": "size"}, has_verdict, ["ddoo", "do", 1], verdict)
