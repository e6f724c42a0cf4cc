import random
import unittest
from itertools import product

from helpers import (NO_SEQUENCES, NO_WORDS, Anything, Raises, all_words, led_known, slow_follows, small_strips,
                     strip_rows, strip_table, wide_strips)
from slitstairs.cards import Card
from slitstairs.equations import equation_rows
from slitstairs.errors import BadStrip
from slitstairs.shapes import Shape, shape_after, shape_of


def slow_entries(words, letter):
    """The entries of a letter, by following the whole strip from each lot."""
    panels, rows = strip_rows(words, letter)
    last = strip_table(words)[-1]
    runs = []
    for panel, told in zip(last, words[-1]):
        if told == letter and panel not in runs:
            runs.append(panel)
    found = []
    for n in range(2 ** len(runs)):
        known = led_known(rows, [run for k, run in enumerate(runs) if n // 2 ** k % 2])
        behind = all(panel in known for panel in panels if panel not in runs)
        found.append((tuple(k for k, run in enumerate(runs) if run in known), behind))
    return tuple(found)


class OracleTest(unittest.TestCase):
    """What the tests of strips compare with agrees with the panels and equations of cards."""

    def test_rows(self):
        chance = random.Random(5)
        for size in (1, 2, 3, 4):
            for width in (1, 2, 3, 7, 12):
                words = [chance.choice(all_words(size)) for _ in range(width)]
                for letter in "do":
                    told = [dict(row.factors) for row in equation_rows(Card.of_words(*words), letter)]
                    self.assertEqual(strip_rows(words, letter)[1], told)


class ShapeOfTest(unittest.TestCase):
    def check(self, strip):
        shape = shape_of(strip)
        self.assertEqual(shape.word, strip[-1])
        self.assertEqual(shape.outs, slow_entries(strip, "o"))
        self.assertEqual(shape.downs, slow_entries(strip, "d"))
        self.assertIs(shape.follows, slow_follows(tuple(strip)))
        return shape

    def test_the_example(self):
        shape = shape_of(("ddoododo",))
        self.assertEqual(shape.outs[:2], (((2,), True), ((0, 1, 2), True)))
        self.assertEqual((len(shape.outs), len(shape.downs), shape.word), (8, 8, "ddoododo"))
        self.assertIs(shape.follows, False)
        self.assertIs(shape.is_lost, False)

    def test_one_column_by_hand(self):
        shape = shape_of(["ddoo"])
        self.assertEqual(vars(shape), {"word": "ddoo", "outs": (((0,), True), ((0,), True)),
                                       "downs": (((0,), True), ((0,), True))})
        shape = shape_of(("dododo",))
        self.assertEqual(shape.outs[:5], (((2,), True), ((0, 1, 2), True), ((0, 1, 2), True), ((0, 1, 2), True),
                                          ((2,), True)))
        self.assertEqual(shape.downs[:3], (((0,), True), ((0,), True), ((0, 1, 2), True)))

    def test_small_strips(self):
        for strip in small_strips():
            self.check(strip)

    def test_wide_strips(self):
        for strip in wide_strips():
            self.check(strip)
            self.check(list(strip))

    def test_follows_asks_the_first_entries(self):
        stuck, whole = shape_of(("dododo",)), shape_of(("ddoodo", "dododo"))
        self.assertIs(Shape("dododo", whole.outs, whole.downs).follows, True)
        self.assertIs(Shape("dododo", stuck.outs, whole.downs).follows, False)
        self.assertIs(Shape("dododo", whole.outs, stuck.downs).follows, False)
        self.assertIs(Shape("dododo", whole.outs[:1], whole.downs[:1]).follows, True)
        hidden = (((0, 1, 2), False),) + whole.outs[1:]
        self.assertIs(Shape("dododo", hidden, whole.downs).follows, False)
        self.assertIs(Shape("dododo", whole.outs, hidden).follows, False)

    def test_the_greatest_width(self):
        strip = ("ddoododo", "dododdoo", "ddododoo", "dododdoo") * 50
        self.assertEqual(len(strip), 200)
        self.check(strip)

    def test_everything_is_a_tuple(self):
        shape = shape_of(["ddoododo", "dododdoo"])
        for entries in (shape.outs, shape.downs):
            self.assertIs(entries.__class__, tuple)
            self.assertEqual({entry.__class__ for entry in entries}, {tuple})
            self.assertEqual({known.__class__ for known, _ in entries}, {tuple})
            self.assertEqual({behind.__class__ for _, behind in entries}, {bool})

    def test_lists_are_neither_kept_nor_changed(self):
        strip = ["ddoododo", "dododdoo"]
        shape = shape_of(strip)
        self.assertEqual(strip, ["ddoododo", "dododdoo"])
        strip[1] = "ddddoooo"
        strip.append("x")
        self.assertEqual(shape, shape_of(("ddoododo", "dododdoo")))

    def test_lost_strips_never_follow(self):
        lost = 0
        for strip in product(all_words(4)[::2], repeat=2):
            shape = shape_of(strip)
            hidden = all(slow_entries(strip, letter)[-1][1] for letter in "do")
            self.assertIs(shape.is_lost, not hidden)
            if shape.is_lost:
                lost += 1
                for word in all_words(4):
                    self.assertIs(shape_of((*strip, word)).is_lost, True)
                    self.assertIs(shape_of((*strip, word)).follows, False)
        self.assertGreater(lost, 3)


class ShapeAfterTest(Raises, unittest.TestCase):
    def test_word_by_word(self):
        for strip in (*small_strips(), *wide_strips()):
            shape = shape_of(strip[:1])
            for k, word in enumerate(strip[1:], 2):
                shape = shape_after(shape, word)
            self.assertEqual(shape, shape_of(strip))
            self.assertIs(shape.__class__, Shape)

    def test_the_shape_passed_stays(self):
        shape = shape_of(("ddoododo",))
        before = dict(vars(shape))
        shape_after(shape, "dododdoo")
        self.assertEqual(vars(shape), before)

    def test_wrong_words(self):
        shape = shape_of(("ddoo", "dodo"))
        for thing in NO_WORDS:
            self.raises(BadStrip, {"index": 0, "what": "word"}, shape_after, shape, thing)
        for word in ("do", "dddooo", "ddddoooo"):
            self.raises(BadStrip, {"index": 0, "what": "size"}, shape_after, shape, word)


class WrongStripsTest(Raises, unittest.TestCase):
    def refused(self, index, what, strip):
        self.raises(BadStrip, {"index": index, "what": what}, shape_of, strip)

    def test_strip(self):
        for thing in (*NO_SEQUENCES, (), [], "ddoo"):
            self.refused(0, "strip", thing)

    def test_word_and_size(self):
        for thing in (*NO_WORDS, Anything()):
            self.refused(0, "word", (thing, None))
            self.refused(2, "word", ["ddoo", "dodo", thing, "do"])
        self.refused(1, "size", ["ddoo", "dddooo", None])
        self.refused(3, "size", ("do", "do", "do", "dodo", ""))
        self.refused(1, "word", ("do", "dodododododo"))


class EqualityTest(unittest.TestCase):
    def test_equal_and_unequal(self):
        shape = shape_of(("ddoo", "dodo"))
        self.assertEqual(shape, Shape(shape.word, shape.outs, shape.downs))
        self.assertEqual(shape, shape_of(("dodo", "ddoo", "dodo")[1:]))
        others = (Shape("ddoo", shape.outs, shape.downs), Shape(shape.word, shape.outs[1:], shape.downs),
                  Shape(shape.word, shape.outs, ()), None, shape.word, (shape.word, shape.outs, shape.downs))
        for other in others:
            self.assertFalse(shape == other)
            self.assertTrue(shape != other)
        self.assertIs(shape.__eq__(Anything()), False)

    def test_arguments_are_kept_as_they_are(self):
        self.assertEqual(vars(Shape(1, [2], None)), {"word": 1, "outs": [2], "downs": None})

    def test_strips_of_one_shape_go_on_alike(self):
        words = all_words(3)
        by_shape = {}
        for strip in product(words, repeat=3):
            shape = shape_of(strip)
            by_shape.setdefault((shape.word, shape.outs, shape.downs), []).append(strip)
        for strips in by_shape.values():
            for word in words:
                self.assertEqual(len({slow_follows((*strip, word)) for strip in strips}), 1)
