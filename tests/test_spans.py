import unittest
from fractions import Fraction
from itertools import product

from helpers import (NO_SEQUENCES, NO_WORDS, Anything, Raises, all_words, is_lowest, slow_opens, slow_rank,
                     slow_reduced, slow_solutions, small_strips, strip_rows, strip_table, wide_strips)
from slitstairs.cards import Card
from slitstairs.errors import BadStrip
from slitstairs.motions import only_opens
from slitstairs.spans import Span, span_after, span_of


def slow_pair(words, letter):
    """Tight and rows of a letter, by solving the whole strip."""
    panels, rows = strip_rows(words, letter)
    solutions = slow_solutions([[row.get(panel, 0) for panel in panels] for row in rows], len(panels))
    runs = []
    for panel, told in zip(strip_table(words)[-1], words[-1]):
        if told == letter and panel not in runs:
            runs.append(panel)
    rates = [[numbers[panels.index(run)] for run in runs] for numbers in solutions]
    return (slow_rank(rates) == len(solutions), slow_reduced(rates))


class SpanOfTest(unittest.TestCase):
    def check(self, strip):
        span = span_of(strip)
        self.assertEqual(span.word, strip[-1])
        self.assertEqual(span.outs, slow_pair(strip, "o"))
        self.assertEqual(span.downs, slow_pair(strip, "d"))
        self.assertIs(span.opens, slow_opens(tuple(strip)))
        self.assertIs(span.is_loose, not (span.outs[0] and span.downs[0]))
        return span

    def test_the_example(self):
        span = span_of(("ddoododo",))
        self.assertEqual(span.outs, (True, ((1, -2, 0),)))
        self.assertEqual((span.word, span.downs), ("ddoododo", (True, ((0, 1, -1),))))
        self.assertIs(span.opens, False)
        self.assertIs(span.is_loose, False)

    def test_a_strip_that_opens(self):
        span = span_of(["ddoododo", "dododdoo"])
        self.assertEqual(vars(span), {"word": "dododdoo", "outs": (True, ()), "downs": (True, ())})
        self.assertIs(span.opens, True)

    def test_small_strips(self):
        for strip in small_strips():
            self.check(strip)

    def test_wide_strips(self):
        for strip in wide_strips():
            if len(strip) < 14:
                self.check(strip)

    def test_against_motions_of_cards(self):
        for strip in wide_strips():
            if len(strip) <= 12:
                self.assertIs(span_of(list(strip)).opens, only_opens(Card.of_words(*strip)))

    def test_the_greatest_width(self):
        strip = ("ddoododo", "dododdoo", "ddododoo", "dododdoo") * 50
        short = ("ddoododo", "dododdoo", "ddododoo", "dododdoo") * 2
        self.assertEqual(span_of(strip), span_of(short))
        self.assertEqual(span_of(short).outs, slow_pair(short, "o"))

    def test_loose_strips_never_open(self):
        loose = 0
        for strip in product(all_words(4)[::2], repeat=2):
            if span_of(strip).is_loose:
                loose += 1
                for word in all_words(4):
                    self.assertIs(span_of((*strip, word)).is_loose, True)
                    self.assertIs(span_of((*strip, word)).opens, False)
        self.assertGreater(loose, 3)

    def test_the_basis_is_reduced(self):
        some = 0
        for strip in wide_strips():
            span = span_of(strip)
            for tight, rows in (span.outs, span.downs):
                self.assertIs(tight.__class__, bool)
                self.assertEqual({row.__class__ for row in (rows, *rows)}, {tuple})
                firsts = [next(k for k, number in enumerate(row) if number) for row in rows]
                self.assertEqual(firsts, sorted(set(firsts)))
                for row in rows:
                    some += 1
                    self.assertTrue(is_lowest(row))
                    self.assertEqual({number.__class__ for number in row}, {int})
                    for first, other in zip(firsts, rows):
                        self.assertEqual(row[first] == 0, other is not row)
        self.assertGreater(some, 5)

    def test_lists_are_neither_kept_nor_changed(self):
        strip = ["ddoododo"]
        span = span_of(strip)
        self.assertEqual(strip, ["ddoododo"])
        strip.append("dododdoo")
        self.assertEqual(span, span_of(("ddoododo",)))


class SpanAfterTest(Raises, unittest.TestCase):
    def test_word_by_word(self):
        for strip in (*small_strips(), *wide_strips()):
            span = span_of(strip[:1])
            for word in strip[1:]:
                span = span_after(span, word)
            self.assertEqual(span, span_of(strip))
            self.assertIs(span.__class__, Span)

    def test_one_word_more(self):
        for strip in product(all_words(4)[::3], repeat=2):
            for word in all_words(4)[::4]:
                span = span_after(span_of(strip), word)
                self.assertEqual((span.outs, span.downs), (slow_pair((*strip, word), "o"), slow_pair((*strip, word), "d")))

    def test_the_span_passed_stays(self):
        span = span_of(("ddoododo",))
        before = dict(vars(span))
        span_after(span, "dododdoo")
        self.assertEqual(vars(span), before)

    def test_wrong_words(self):
        span = span_of(("ddoo", "dodo"))
        for thing in NO_WORDS:
            self.raises(BadStrip, {"index": 0, "what": "word"}, span_after, span, thing)
        for word in ("do", "dddooo", "ddddoooo"):
            self.raises(BadStrip, {"index": 0, "what": "size"}, span_after, span, word)


class WrongStripsTest(Raises, unittest.TestCase):
    def test_wrong_strips(self):
        for thing in (*NO_SEQUENCES, (), [], "ddoo"):
            self.raises(BadStrip, {"index": 0, "what": "strip"}, span_of, thing)
        for thing in (*NO_WORDS, Anything()):
            self.raises(BadStrip, {"index": 1, "what": "word"}, span_of, ("do", thing, None))
        self.raises(BadStrip, {"index": 1, "what": "size"}, span_of, ["do", "ddoo", None])


class EqualityTest(unittest.TestCase):
    def test_equal_and_unequal(self):
        span = span_of(("ddoododo",))
        self.assertEqual(span, Span(span.word, span.outs, span.downs))
        others = (Span("ddododoo", span.outs, span.downs), Span(span.word, (False, span.outs[1]), span.downs),
                  Span(span.word, span.outs, (True, ())), None, span.word, (span.word, span.outs, span.downs))
        for other in others:
            self.assertFalse(span == other)
            self.assertTrue(span != other)
        self.assertIs(span.__eq__(Anything()), False)

    def test_arguments_are_kept_as_they_are(self):
        self.assertEqual(vars(Span(1, [2], None)), {"word": 1, "outs": [2], "downs": None})

    def test_the_oracle(self):
        self.assertEqual(slow_reduced([[2, 4, 6], [1, 3, 3]]), ((1, 0, 3), (0, 1, 0)))
        self.assertEqual(slow_reduced([[Fraction(1, 2), Fraction(-1, 3)]]), ((3, -2),))
