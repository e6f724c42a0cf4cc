import random
import unittest
from itertools import product

from helpers import NO_NUMBERS, Anything, Raises, crossed, heights_of
from slitstairs.allcards import all_cards, card_at, how_many_cards
from slitstairs.cards import Card
from slitstairs.errors import BadPull
from slitstairs.pulls import (
    Box, Pull, let_pulls, let_pushes, pull_box, pull_card, pull_fault, push_card, push_fault)

PLAIN = Card.of_words("dddooo", "dddooo")
NAMES = ("first", "last", "boundary", "downs", "outs")


def slow_pull_fault(card, pull):
    """The first word that applies, by looking at letters alone."""
    if pull.last >= card.width:
        return "columns"
    words = card.words[pull.first:pull.last + 1]
    t = pull.boundary
    if any(word[t - 1:t + 1] != "do" for word in words):
        return "crease"
    if len({crossed(word)[t] for word in words}) > 1:
        return "place"
    if any(word[max(t - pull.downs, 0):t] != "d" * pull.downs or word[t:t + pull.outs] != "o" * pull.outs for word in words):
        return "run"
    if pull.downs + pull.outs > heights_of(words[0])[t]:
        return "boards"
    if any((c, k) in card.marks for c in range(pull.first, pull.last) for k in range(t - pull.downs, t + pull.outs)):
        return "mark"
    return None


def slow_push_fault(card, pull):
    if pull.last >= card.width:
        return "columns"
    words = card.words[pull.first:pull.last + 1]
    t = pull.boundary - pull.downs + pull.outs
    if t < 1 or any(word[t - 1:t + 1] != "od" for word in words):
        return "crease"
    if len({crossed(word)[t] for word in words}) > 1:
        return "place"
    if any(word[max(t - pull.outs, 0):t] != "o" * pull.outs or word[t:t + pull.downs] != "d" * pull.downs for word in words):
        return "run"
    if any((c, k) in card.marks for c in range(pull.first, pull.last)
           for k in range(pull.boundary - pull.downs, pull.boundary + pull.outs)):
        return "mark"
    return None


def every_pull(size, width):
    """All pulls with numbers up to some beyond those of cards of a size and width, ascending."""
    most = min(size + 1, 6)
    for first, last, boundary, downs, outs in product(range(width + 1), range(width + 1), range(1, 2 * size + 2),
                                                      range(1, most + 1), range(1, most + 1)):
        if first <= last and boundary <= 11:
            yield Pull(first, last, boundary, downs=downs, outs=outs)


def some_cards():
    chance = random.Random(91)
    for size, width in ((1, 1), (1, 2), (2, 1), (2, 2), (3, 1), (3, 2), (4, 1)):
        yield from all_cards(size, width)
    for size, width in ((2, 3), (3, 2), (3, 3), (4, 2)):
        for _ in range(25):
            words = card_at(size, width, chance.randrange(how_many_cards(size, width))).words
            words = [chance.choice([words[c], words[max(c - 1, 0)]]) for c in range(width)]
            places = [(c, t) for c in range(width - 1) for t in range(1, 2 * size - 1)]
            yield Card.of_words(*words, marks=chance.sample(places, chance.randrange(0, 4)))
    yield Card.of_words("dddodooo", "ddoododo", "doddoodo")


class PullTest(Raises, unittest.TestCase):
    def test_attributes_and_text(self):
        pull = Pull(0, 1, 3, outs=2)
        self.assertEqual(vars(pull), {"first": 0, "last": 1, "boundary": 3, "downs": 1, "outs": 2})
        self.assertEqual((str(pull), str(Pull(11, 11, 11, downs=6, outs=6))), ("0-1@3:1d2o", "11-11@11:6d6o"))
        self.assertEqual(str(Pull(2, 10, 1)), "2-10@1:1d1o")

    def test_refused(self):
        for thing in (*NO_NUMBERS, -1, 12, 10 ** 20):
            self.raises(BadPull, {"what": "columns"}, Pull, thing, 11, None, downs=None, outs=None)
            self.raises(BadPull, {"what": "columns"}, Pull, 0, thing, None, downs=None, outs=None)
        self.raises(BadPull, {"what": "columns"}, Pull, 2, 1, None)
        for thing in (*NO_NUMBERS, -1, 0, 12, 10 ** 20):
            self.raises(BadPull, {"what": "boundary"}, Pull, 0, 0, thing, downs=None, outs=None)
        for thing in (*NO_NUMBERS, -1, 0, 7, 10 ** 20):
            self.raises(BadPull, {"what": "downs"}, Pull, 0, 0, 1, downs=thing, outs=None)
            self.raises(BadPull, {"what": "outs"}, Pull, 0, 0, 1, downs=1, outs=thing)

    def test_downs_and_outs_are_passed_by_keyword(self):
        with self.assertRaises(TypeError):
            Pull(0, 0, 1, 1)

    def test_equality(self):
        pull = Pull(1, 2, 3, downs=4, outs=5)
        self.assertEqual(pull, Pull(1, 2, 3, downs=4, outs=5))
        for name in NAMES:
            other = Pull(**{**vars(pull), name: vars(pull)[name] - (name != "last") + (name == "last")})
            self.assertFalse(pull == other)
            self.assertTrue(pull != other)
        for other in ((1, 2, 3, 4, 5), None, str(pull), Anything()):
            self.assertIs(pull.__eq__(other), False)

    def test_mirrored_and_turned(self):
        pull = Pull(1, 3, 5, downs=2, outs=4)
        self.assertEqual(pull.mirrored(6), Pull(1, 3, 7, downs=4, outs=2))
        self.assertEqual(pull.mirrored(6).mirrored(6), pull)
        self.assertEqual(pull.turned(5), Pull(1, 3, 5, downs=2, outs=4))
        self.assertEqual(pull.turned(12), Pull(8, 10, 5, downs=2, outs=4))
        self.assertEqual(vars(pull), {"first": 1, "last": 3, "boundary": 5, "downs": 2, "outs": 4})
        self.raises(BadPull, {"what": "boundary"}, pull.mirrored, 2)
        self.raises(BadPull, {"what": "boundary"}, Pull(0, 0, 1).mirrored, 6 + 1)
        self.raises(BadPull, {"what": "columns"}, pull.turned, 3)


class PullFaultTest(Raises, unittest.TestCase):
    def test_the_example(self):
        self.assertEqual(pull_box(PLAIN, Pull(0, 1, 3)).squares, ((0, 0, 0), (1, 0, 0)))
        self.assertEqual(pull_card(PLAIN, Pull(0, 1, 3)), Card.of_words("ddodoo", "ddodoo"))

    def test_each_word(self):
        told = {
            "columns": (PLAIN, Pull(0, 2, 3)), "crease": (PLAIN, Pull(0, 0, 2)),
            "place": (Card.of_words("ddddoooo", "doddodoo"), Pull(0, 1, 4)),
            "run": (Card.of_words("ddoodo"), Pull(0, 0, 2, downs=3)),
            "boards": (PLAIN, Pull(0, 1, 3, downs=2, outs=2)),
        }
        self.assertEqual({word: pull_fault(*args) for word, args in told.items()}, {word: word for word in told})
        self.assertEqual(pull_fault(PLAIN.with_marks([(0, 2)]), Pull(0, 1, 3)), "mark")
        self.assertIsNone(pull_fault(PLAIN.with_marks([(0, 1), (0, 4)]), Pull(0, 1, 3)))
        self.assertEqual(pull_fault(PLAIN.with_marks([(0, 1)]), Pull(0, 1, 3, downs=2)), "mark")
        self.assertIsNone(pull_fault(PLAIN.with_marks([(0, 2), (0, 3)]), Pull(1, 1, 3)))
        # A boundary that some column does not have, and a mark that does not count.
        self.assertEqual(pull_fault(PLAIN, Pull(0, 0, 11)), "crease")
        self.assertEqual(pull_fault(PLAIN, Pull(0, 0, 6)), "crease")

    def test_each_word_is_asked_of_all_columns_first(self):
        card = Card.of_words("ddoodo", "dododo", "dddooo")
        self.assertEqual(pull_fault(card, Pull(0, 2, 2, downs=6)), "crease")
        self.assertEqual(pull_fault(card, Pull(0, 1, 2, downs=6)), "crease")
        self.assertEqual(pull_fault(card, Pull(0, 3, 2, downs=6)), "columns")
        self.assertEqual(pull_fault(Card.of_words("ddddoooo", "doddodoo"), Pull(0, 1, 4, downs=6)), "place")
        self.assertEqual(pull_fault(Card.of_words("ddodoo").beside(Card.of_words("ddodoo"), slits=[1]),
                                    Pull(0, 1, 2, downs=2, outs=2)), "run")
        self.assertEqual(pull_fault(Card.of_words("ddoodo").beside(Card.of_words("ddoodo"), slits=[1]),
                                    Pull(0, 1, 2, downs=2, outs=2)), "boards")

    def test_no_pull(self):
        for thing in (*NO_NUMBERS, (0, 0, 3), "0-0@3:1d1o", Box(0, 0, 0, 0, 1, 1), Anything()):
            self.assertEqual((pull_fault(PLAIN, thing), push_fault(PLAIN, thing)), ("pull", "pull"))
            for call in (pull_card, push_card, pull_box):
                self.raises(BadPull, {"what": "pull"}, call, PLAIN, thing)

    def test_against_letters(self):
        words = set()
        for card in some_cards():
            for pull in every_pull(card.size, card.width):
                fault = pull_fault(card, pull)
                self.assertEqual(fault, slow_pull_fault(card, pull), (card.words, card.marks, str(pull)))
                words.add(fault)
                push = push_fault(card, pull)
                self.assertEqual(push, slow_push_fault(card, pull), (card.words, card.marks, str(pull)))
                words.add((push, "push"))
        self.assertEqual(words, {None, "columns", "crease", "place", "run", "boards", "mark", (None, "push"),
                                 ("columns", "push"), ("crease", "push"), ("place", "push"), ("run", "push"),
                                 ("mark", "push")})


class PullCardTest(Raises, unittest.TestCase):
    def test_pull_and_push_undo_each_other(self):
        pulled = pushed = 0
        for card in some_cards():
            for pull in every_pull(card.size, card.width):
                if slow_pull_fault(card, pull) is None:
                    after = pull_card(card, pull)
                    first, behind = pull.boundary - pull.downs, pull.boundary + pull.outs
                    told = [word[:first] + "o" * pull.outs + "d" * pull.downs + word[behind:]
                            if pull.first <= c <= pull.last else word for c, word in enumerate(card.words)]
                    self.assertEqual(after, Card.of_words(*told, marks=card.marks))
                    self.assertEqual(push_card(after, pull), card)
                    pulled += 1
                else:
                    self.raises(BadPull, {"what": pull_fault(card, pull)}, pull_card, card, pull)
                    self.raises(BadPull, {"what": pull_fault(card, pull)}, pull_box, card, pull)
                if slow_push_fault(card, pull) is None:
                    self.assertEqual(pull_card(push_card(card, pull), pull), card)
                    pushed += 1
                else:
                    self.raises(BadPull, {"what": push_fault(card, pull)}, push_card, card, pull)
        self.assertGreater(min(pulled, pushed), 300)

    def test_marks_stay(self):
        card = PLAIN.with_marks([(0, 2), (0, 3)])
        self.assertEqual(pull_card(card, Pull(1, 1, 3)), Card.of_words("dddooo", "ddodoo", marks=[(0, 2), (0, 3)]))

    def test_greatest(self):
        card = Card.of_words(*["ddddddoooooo"] * 12)
        pull = Pull(0, 11, 6, downs=3, outs=3)
        self.assertEqual(pull_card(card, pull).words, ("dddooodddooo",) * 12)
        self.assertEqual(pull_fault(card, Pull(0, 11, 6, downs=6, outs=1)), "boards")
        self.assertEqual(pull_card(card, Pull(0, 11, 6, downs=5, outs=1)).words, ("dodddddooooo",) * 12)
        self.assertEqual(len(pull_box(card, pull)), 12 * 9)


class LetPullsTest(unittest.TestCase):
    def test_all_of_small_cards(self):
        for card in some_cards():
            pulls = list(every_pull(card.size, card.width))
            found = list(let_pulls(card))
            self.assertEqual(found, [pull for pull in pulls if slow_pull_fault(card, pull) is None])
            self.assertEqual(list(let_pushes(card)), [pull for pull in pulls if slow_push_fault(card, pull) is None])
            self.assertEqual({pull.__class__ for pull in found} - {Pull}, set())
            self.assertEqual([tuple(vars(pull).values()) for pull in found],
                             sorted(tuple(vars(pull).values()) for pull in found))

    def test_mirrored_and_turned(self):
        for card in some_cards():
            other = card.mirrored()
            found = list(let_pulls(other))
            told = [pull.mirrored(card.size) for pull in let_pulls(card)]
            self.assertEqual(sorted(map(str, found)), sorted(map(str, told)))
            for pull in let_pulls(card):
                self.assertEqual(pull_card(other, pull.mirrored(card.size)), pull_card(card, pull).mirrored())
            other = card.turned()
            told = [pull.turned(card.width) for pull in let_pulls(card)]
            self.assertEqual(sorted(map(str, let_pulls(other))), sorted(map(str, told)))
            for pull in let_pulls(card):
                self.assertEqual(pull_card(other, pull.turned(card.width)), pull_card(card, pull).turned())

    def test_steep_and_great_cards(self):
        self.assertEqual(list(let_pulls(Card.of_words(*["do" * 6] * 12))), [])
        self.assertEqual(list(let_pushes(Card.of_words(*["ddddddoooooo"] * 12))), [])
        self.assertEqual(len(list(let_pulls(Card.of_words(*["ddddddoooooo"] * 12)))), 78 * 15)
        self.assertEqual(str(next(let_pulls(Card.of_words(*["ddddddoooooo"] * 12)))), "0-0@6:1d1o")
        self.assertEqual(str(next(let_pushes(Card.of_words(*["do" * 6] * 12)))), "0-0@2:1d1o")


class BoxTest(unittest.TestCase):
    def test_squares(self):
        for card in some_cards():
            for pull in let_pulls(card):
                box = pull_box(card, pull)
                self.assertIs(box.__class__, Box)
                self.assertEqual((box.first, box.last, box.outs, box.downs), (pull.first, pull.last, pull.outs, pull.downs))
                after = pull_card(card, pull)
                told = []
                for c in range(card.width):
                    left, right = heights_of(card.words[c]), heights_of(after.words[c])
                    for t, height in enumerate(left):
                        told += [(c, x, x + card.size - t) for x in range((t - height) // 2, (t - right[t]) // 2)]
                self.assertEqual(box.squares, tuple(sorted(told)))
                self.assertEqual(len(box), len(told))

    def test_by_hand(self):
        box = Box(1, 2, 3, 4, 2, 1)
        self.assertEqual(vars(box), {"first": 1, "last": 2, "x": 3, "y": 4, "outs": 2, "downs": 1})
        self.assertEqual(box.squares, ((1, 3, 4), (1, 4, 4), (2, 3, 4), (2, 4, 4)))
        self.assertEqual(len(box), 4)
        for square in product(range(5), range(7), range(7)):
            self.assertIs(square in box, square in box.squares)
        self.assertNotIn((1, -3, 4), box)
        self.assertEqual(vars(Box("a", None, [], (), True, {})), {"first": "a", "last": None, "x": [], "y": (),
                                                                   "outs": True, "downs": {}})

    def test_equality(self):
        box = Box(1, 2, 3, 4, 2, 1)
        self.assertEqual(box, Box(1, 2, 3, 4, 2, 1))
        for k in range(6):
            numbers = [1, 2, 3, 4, 2, 1]
            numbers[k] += 1
            self.assertFalse(box == Box(*numbers))
            self.assertTrue(box != Box(*numbers))
        for other in (None, (1, 2, 3, 4, 2, 1), box.squares, Anything()):
            self.assertIs(box.__eq__(other), False)

    def test_meets_and_rests_on(self):
        boxes = [Box(first, last, x, y, outs, downs) for first, last in ((0, 0), (0, 1), (1, 1), (2, 3))
                 for x in range(3) for y in range(3) for outs in (1, 2) for downs in (1, 2)]
        counts = [0, 0]
        for one in boxes:
            squares = set(one.squares)
            for other in boxes:
                others = set(other.squares)
                meets = bool(squares & others)
                rests = not meets and any((c, u - 1, v) in others or (c, u, v - 1) in others for c, u, v in squares)
                self.assertIs(one.meets(other), meets)
                self.assertIs(one.rests_on(other), rests)
                counts[0] += meets
                counts[1] += rests
        self.assertGreater(min(counts), 500)

    def test_corners_and_other_columns(self):
        low = Box(0, 0, 0, 0, 1, 1)
        self.assertFalse(Box(0, 0, 1, 1, 1, 1).rests_on(low))
        self.assertFalse(Box(1, 1, 1, 0, 1, 1).rests_on(low))
        self.assertTrue(Box(0, 1, 1, 0, 1, 1).rests_on(low))
        self.assertTrue(Box(0, 0, 0, 1, 1, 1).rests_on(low))
        self.assertFalse(low.rests_on(Box(0, 0, 0, 1, 1, 1)))
        self.assertFalse(low.rests_on(low))
        self.assertTrue(low.meets(low))
