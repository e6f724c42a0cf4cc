import random
import unittest
from itertools import product

from helpers import NO_NUMBERS, NO_SEQUENCES, Anything, Raises, all_words
from slitstairs.allcards import all_cards
from slitstairs.cards import Card
from slitstairs.cardtext import card_text, parse_card
from slitstairs.errors import BadText

EXAMPLE = Card.of_words("dddooo", "ddodoo", "dododo", marks=[(1, 3), (0, 1)])
TEXT = "dddooo\nddodoo\ndododo\nslit 0 1\nslit 1 3"


class CardTextTest(unittest.TestCase):
    def test_the_example(self):
        self.assertEqual(card_text(EXAMPLE), TEXT)
        self.assertEqual(parse_card(TEXT), EXAMPLE)
        self.assertEqual((card_text(Card.of_words("do")), parse_card("do")), ("do", Card.of_words("do")))

    def test_there_and_back(self):
        cards = [card for size, width in ((1, 3), (2, 2), (2, 4), (3, 2), (5, 1)) for card in all_cards(size, width)]
        chance = random.Random(19)
        for size in (2, 3, 6):
            for width in (2, 11, 12):
                places = [(c, t) for c in range(width - 1) for t in range(1, 2 * size - 1)]
                words = [chance.choice(all_words(size)) for _ in range(width)]
                for many in (1, 2, len(places) // 2, len(places)):
                    cards.append(Card.of_words(*words, marks=chance.sample(places, many)))
        for card in cards:
            text = card_text(card)
            rows = [*card.words, *[f"slit {c} {t}" for c, t in sorted(card.marks)]]
            self.assertEqual(text, "\n".join(rows))
            self.assertEqual(parse_card(text), card)
            self.assertEqual(card_text(parse_card(text)), text)

    def test_two_digits(self):
        text = "\n".join(["dododododododo"[:12]] * 12 + ["slit 9 10", "slit 10 1", "slit 10 9", "slit 10 10"])
        self.assertEqual(parse_card(text).marks, ((9, 10), (10, 1), (10, 9), (10, 10)))
        self.assertEqual(card_text(parse_card(text)), text)


class BadTextTest(Raises, unittest.TestCase):
    def refused(self, row, what, text):
        self.raises(BadText, {"row": row, "what": what}, parse_card, text)

    def test_text(self):
        for thing in (*NO_SEQUENCES[:3], *NO_SEQUENCES[4:], *[thing for thing in NO_NUMBERS if not isinstance(thing, str)],
                      ["do"], Anything(), EXAMPLE):
            self.refused(0, "text", thing)

    def test_row(self):
        for row in ("", " ", "x", "ddoo ", " ddoo", "ddo o", "Ddoo", "ddoox", "slit", "slit 0", "slit 0 1 2", "slit 0  1",
                    "slit  0 1", " slit 0 1", "slit 0 1 ", "slit\t0 1", "slit 00 1", "slit 0 01", "slit -1 1", "slit +0 1",
                    "slit 1000 1", "slit 0 1234", "slit a b", "slit 0 \u0661", "slit 0 \u00b2", "Slit 0 1", "slit 0,1",
                    "slit 0 1\r", "do\r", "slit0 1", "slit 0 1.", "slit 0x1 1", "slit 1_0 1", "ddoo\u00a0", "slit 0 1\x0b"):
            self.refused(1, "row", row)
            self.refused(3, "row", f"ddoo\nddoo\n{row}\nx")
            self.refused(4, "row", f"ddoo\nddoo\nslit 0 1\n{row}")
        self.refused(1, "row", "")
        self.refused(2, "row", "do\n")
        self.refused(6, "row", TEXT + "\n")
        self.refused(1, "row", "\ndo")
        self.refused(2, "row", "do\n\ndo")

    def test_order(self):
        self.refused(4, "order", "ddoo\nddoo\nslit 0 1\nddoo")
        self.refused(4, "order", "ddoo\nddoo\nslit 0 1\no")
        self.refused(4, "order", "ddoo\nddoo\nslit 0 1\nslit 0 1")
        self.refused(4, "order", "ddoo\nddoo\nslit 0 2\nslit 0 1")
        self.refused(5, "order", "ddoo\nddoo\nddoo\nslit 1 1\nslit 0 2")
        self.refused(4, "order", "ddoo\nddoo\nslit 0 1\nslit 0 0")
        # Numbers are ordered as numbers, not as texts.
        words = "\n".join(["dododododo"] * 12)
        self.assertEqual(parse_card(words + "\nslit 2 1\nslit 10 1").marks, ((2, 1), (10, 1)))
        self.refused(14, "order", words + "\nslit 10 1\nslit 2 1")

    def test_words(self):
        for word, what in (("d", "word"), ("o", "word"), ("do" * 7, "word"), ("ddd", "count"), ("ddo", "count"), ("dd", "count"),
                           ("od", "below"), ("dood", "below"), ("oddo", "below")):
            self.refused(1, what, word)
            self.refused(2, what, f"ddoo\n{word}\nx")
        self.refused(2, "size", "ddoo\ndo")
        self.refused(3, "size", "do\ndo\ndodo\nx")
        self.refused(2, "below", "do\noddo")
        self.refused(13, "many", "\n".join(["do"] * 13))
        self.refused(13, "many", "\n".join(["ddoo"] * 14))
        self.refused(13, "size", "\n".join(["do"] * 12 + ["dodo"]))
        self.refused(13, "below", "\n".join(["do"] * 12 + ["od"]))
        self.assertEqual(parse_card("\n".join(["do"] * 12)).width, 12)

    def test_slits(self):
        self.refused(1, "first", "slit 0 1")
        self.refused(1, "first", "slit 0 1\nslit 0 1")
        self.refused(1, "first", "slit 999 999\nddoo\nddoo")
        for c, t in product((0, 1, 2, 3, 10, 999), (0, 1, 2, 3, 4, 999)):
            text = f"ddoo\nddoo\ndodo\nslit {c} {t}"
            if c <= 1 and 1 <= t <= 2:
                self.assertEqual(parse_card(text).marks, ((c, t),))
            else:
                self.refused(4, "mark", text + "\nslit 0 0")
        self.refused(2, "mark", "ddoo\nslit 0 1")
        self.refused(3, "mark", "do\ndo\nslit 0 0")
        self.refused(3, "mark", "do\ndo\nslit 0 1")
        self.refused(5, "mark", "ddoo\nddoo\nddoo\nslit 0 1\nslit 2 1")
