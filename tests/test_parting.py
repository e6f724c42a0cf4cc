import random
import unittest
from itertools import combinations, product

from helpers import NO_NUMBERS, NO_SEQUENCES, Anything, Raises, heights_of
from slitstairs.allcards import all_cards, card_at, how_many_cards
from slitstairs.cards import Card
from slitstairs.errors import BadView
from slitstairs.parting import Twins, fewest_changes, parting_print, tells_cards
from slitstairs.prints import Print
from slitstairs.views import slope_view


def look_alike(one, other, printed):
    return slope_view(one, printed, 2, 1) == slope_view(other, printed, 2, 1)


def changes_of(printed):
    return tuple((c, t) for c, row in enumerate(printed.inks) for t in range(1, len(row)) if row[t] != row[t - 1])


def unlike_places(one, other):
    return {(c, t) for c, words in enumerate(zip(one.words, other.words))
            for t, heights in enumerate(zip(*map(heights_of, words))) if heights[0] != heights[1]}


def small_prints():
    """For each lot of ink changes of small cards, a print with just these."""
    for size, width in ((1, 1), (1, 2), (2, 1), (2, 2), (3, 1)):
        for kinds in product((0, 1), repeat=width * (2 * size - 1)):
            rows = []
            for c in range(width):
                row = [5]
                for kind in kinds[c * (2 * size - 1):(c + 1) * (2 * size - 1)]:
                    row.append(row[-1] - 3 * kind)
                rows.append(row)
            yield Print(rows)


class TellsCardsTest(unittest.TestCase):
    def judge(self, printed):
        wanted = [(c, t) for c in range(printed.width) for t in range(2, 2 * printed.size - 1)]
        wanted = [pair for pair in wanted if pair not in changes_of(printed)]
        found = tells_cards(printed)
        if not wanted:
            self.assertIsNone(found)
            return None
        self.assertIs(found.__class__, Twins)
        self.assertEqual((found.column, found.boundary), wanted[0])
        for card in (found.one, found.other):
            self.assertEqual((card.size, card.width, card.marks), (printed.size, printed.width, ()))
        self.assertEqual(unlike_places(found.one, found.other), {wanted[0]})
        for slope in ((2, 1), (1, 2), (9, 1)):
            self.assertEqual(slope_view(found.one, printed, *slope), slope_view(found.other, printed, *slope))
        return found

    def test_against_all_pairs_of_cards(self):
        told = []
        for printed in small_prints():
            cards = list(all_cards(printed.size, printed.width))
            apart = all(not look_alike(*pair, printed) for pair in combinations(cards, 2))
            found = self.judge(printed)
            self.assertEqual(found is None, apart)
            told.append(apart)
        self.assertGreater(min(told.count(True), told.count(False)), 5)

    def test_twins_at_all_places(self):
        for size in range(2, 7):
            for width in (1, 2, 12):
                for c, t in product(range(width), range(2, 2 * size - 1)):
                    rows = [[step % 2 for step in range(2 * size)] for _ in range(width)]
                    rows[c][t:] = [1 - ink for ink in rows[c][t:]]
                    found = self.judge(Print(rows))
                    self.assertEqual((found.column, found.boundary), (c, t))

    def test_plain_prints(self):
        for size in range(2, 7):
            self.assertEqual((tells_cards(Print.plain(size, 3)).column, tells_cards(Print.plain(size, 3)).boundary), (0, 2))
        # Of size 1 there is one card alone.
        self.assertIsNone(tells_cards(Print.plain(1, 12)))

    def test_arguments_are_kept_as_they_are(self):
        self.assertEqual(vars(Twins(1, [2], None, "x")), {"column": 1, "boundary": [2], "one": None, "other": "x"})


def some_lots():
    """Lots of 2 to 4 cards with unlike words."""
    chance = random.Random(241)
    for size, width in ((2, 1), (2, 2), (2, 3), (3, 1), (3, 2), (4, 1), (4, 2)):
        cards = how_many_cards(size, width)
        for many in (2, 3, 4):
            for _ in range(8):
                if many <= cards:
                    yield [card_at(size, width, number) for number in chance.sample(range(cards), many)]


class FewestChangesTest(Raises, unittest.TestCase):
    def test_by_hand(self):
        plain, other = Card.of_words("dddooo"), Card.of_words("ddoodo")
        # The heights are 0 1 2 3 2 1 0 and 0 1 2 1 0 1 0.
        self.assertEqual(fewest_changes((plain, other)), ((0, 3),))
        self.assertEqual(parting_print((plain, other)).inks, ((0, 0, 0, 1, 1, 1),))
        cards = [Card.of_words(*words) for words in product(("ddoo", "dodo"), repeat=2)]
        self.assertEqual(fewest_changes(cards), ((0, 2), (1, 2)))
        self.assertEqual(parting_print(cards).inks, ((0, 0, 1, 1), (0, 0, 1, 1)))
        # One pair can part three cards.
        three = [Card.of_words(word) for word in ("ddddoooo", "dddodooo", "ddoododo")]
        self.assertEqual([heights_of(card.words[0])[4] for card in three], [4, 2, 0])
        self.assertEqual(fewest_changes(three), ((0, 4),))

    def test_against_all_lots_of_pairs(self):
        kinds = []
        for cards in some_lots():
            pairs = [(c, t) for c in range(cards[0].width) for t in range(1, 2 * cards[0].size)]
            wanted = [unlike_places(*two) for two in combinations(cards, 2)]
            lots = (lot for many in range(1, 5) for lot in combinations(pairs, many))
            told = next(lot for lot in lots if all(set(lot) & places for places in wanted))
            found = fewest_changes(cards)
            self.assertEqual(found, told)
            self.assertEqual(fewest_changes(tuple(cards)), told)
            self.assertEqual({part.__class__ for part in (found, *found)}, {tuple})
            kinds.append((len(cards), len(found)))
        self.assertLessEqual({(2, 1), (3, 1), (3, 2), (4, 2), (4, 3)}, set(kinds))

    def test_the_print_parts_them(self):
        for cards in some_lots():
            printed = parting_print(cards)
            self.assertIs(printed.__class__, Print)
            self.assertEqual((printed.size, printed.width), (cards[0].size, cards[0].width))
            self.assertEqual(changes_of(printed), fewest_changes(cards))
            for row in printed.inks:
                self.assertEqual(row[0], 0)
                self.assertLessEqual({other - ink for ink, other in zip(row, row[1:])}, {0, 1})
            for one, other in combinations(cards, 2):
                self.assertFalse(look_alike(one, other, printed))

    def test_no_print_with_fewer_changes_does(self):
        tried = 0
        for cards in some_lots():
            many = len(fewest_changes(cards))
            if cards[0].size > 3 or cards[0].width > 2:
                continue
            steps = 2 * cards[0].size
            for lot in combinations([(c, t) for c in range(cards[0].width) for t in range(1, steps)], many - 1):
                printed = Print([[len([1 for told, place in lot if told == c and place <= t]) for t in range(steps)]
                                 for c in range(cards[0].width)])
                tried += 1
                self.assertTrue(any(look_alike(*two, printed) for two in combinations(cards, 2)))
        self.assertGreater(tried, 100)

    def test_marks_mean_nothing(self):
        cards = [Card.of_words("ddoo", "dodo", marks=[(0, 1)]), Card.of_words("dodo", "dodo")]
        self.assertEqual(fewest_changes(cards), ((0, 2),))
        marked = [cards[0], cards[0].unmarked()]
        self.raises(BadView, {"what": "equal"}, fewest_changes, marked)

    def test_great_cards(self):
        chance = random.Random(242)
        cards = [card_at(6, 12, chance.randrange(132 ** 12)) for _ in range(4)]
        found = fewest_changes(cards)
        self.assertTrue(all(set(found) & unlike_places(*two) for two in combinations(cards, 2)))
        words = [["ddddddoooooo"] * 12 for _ in range(4)]
        for k in range(3):
            words[k][11] = ("dddddodooooo", "ddddoddooooo", "dddddoodoooo")[k]
        cards = [Card.of_words(*told) for told in words]
        self.assertEqual(len(fewest_changes(cards)), 3)
        self.assertEqual(parting_print(cards).inks[:11], ((0,) * 12,) * 11)

    def test_wrong_cards(self):
        one, other = Card.of_words("ddoo", "dodo"), Card.of_words("dodo", "dodo")
        more = [Card.of_words(*words) for words in product(("dddooo", "ddoodo", "doddoo"), repeat=2)]
        for call in (fewest_changes, parting_print):
            for thing in (*NO_SEQUENCES, (), [one], more[:5], one, {one.words: one, other.words: other}):
                self.raises(BadView, {"what": "cards"}, call, thing)
            for thing in (*NO_NUMBERS, one.columns[0], "dodo", ("ddoo", "dodo"), Anything(), Card.of_words("ddoo"), more[0],
                          Card.of_words("do", "do")):
                self.raises(BadView, {"what": "cards"}, call, (one, thing))
                self.raises(BadView, {"what": "cards"}, call, [thing, one])
                self.raises(BadView, {"what": "cards"}, call, [one, one, other, thing])
            self.raises(BadView, {"what": "equal"}, call, [one, one])
            self.raises(BadView, {"what": "equal"}, call, [one, other, Card.of_words("ddoo", "dodo")])
            self.raises(BadView, {"what": "equal"}, call, (one, other, other.with_marks([(0, 1)])))

    def test_lists_are_not_changed(self):
        cards = [Card.of_words("ddoo"), Card.of_words("dodo")]
        told = list(cards)
        fewest_changes(cards)
        parting_print(cards)
        self.assertEqual(cards, told)
