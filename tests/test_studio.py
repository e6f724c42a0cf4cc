import random
import unittest
from itertools import combinations, permutations

from helpers import NO_NUMBERS, NO_SEQUENCES, Anything, Raises
from slitstairs.cards import Card
from slitstairs.errors import BadLot, BadOrder, BadPull, BadStudio, BadTable, NoSuch, Rests, TooEarly
from slitstairs.pulls import Pull, let_pulls, pull_box, pull_card
from slitstairs.resting import closed_lots, let_orders, order_fault, rest_table
from slitstairs.studio import Studio

CARD = Card.of_words("dddooo", "dddooo")
PULLS = (Pull(0, 1, 3), Pull(0, 0, 2), Pull(1, 1, 4))


def example():
    return Studio.with_pulls(CARD, *PULLS)


def state(studio):
    return (studio.start, studio.card, studio.pulls, studio.boxes, studio.table)


def some_studios(most, many=25):
    """Studios of random let pulls on cards with and without marks."""
    chance = random.Random(96)
    for _ in range(many):
        size, width = chance.randrange(2, 7), chance.randrange(1, 5)
        marks = [(c, t) for c in range(width - 1) for t in range(1, 2 * size - 1) if chance.randrange(12) == 0]
        studio = Studio(Card.of_words(*["d" * size + "o" * size] * width, marks=marks))
        while len(studio) < most:
            pulls = list(let_pulls(studio.card))
            if not pulls:
                break
            studio.pull(chance.choice(pulls))
        yield studio


class StudioTest(Raises, unittest.TestCase):
    def refused(self, studio, error, attributes, call, *args):
        """The call raises this error and changes nothing."""
        before = state(studio)
        self.raises(error, attributes, call, *args)
        self.assertEqual(state(studio), before)

    def test_the_example(self):
        studio = example()
        self.assertEqual((studio.card.words, studio.table), (("doddoo", "ddoodo"), ((), (0,), (0,))))
        self.refused(studio, Rests, {"number": 0, "by": 1}, studio.take_back, 0)

    def test_a_new_studio(self):
        studio = Studio(CARD)
        self.assertEqual(vars(studio), {"start": CARD, "card": CARD, "pulls": (), "boxes": ()})
        self.assertEqual((studio.table, len(studio), list(studio)), ((), 0, []))
        for thing in (*NO_NUMBERS, CARD.columns[0], [CARD], "dddooo", Anything()):
            self.raises(BadStudio, {"what": "card"}, Studio, thing)
            self.raises(BadStudio, {"what": "card"}, Studio.with_pulls, thing, None)

    def test_pulls(self):
        studio = Studio(CARD)
        card, boxes = CARD, []
        for number, pull in enumerate(PULLS):
            boxes.append(pull_box(card, pull))
            card = pull_card(card, pull)
            self.assertEqual(studio.pull(pull), number)
            self.assertEqual(state(studio), (CARD, card, PULLS[:number + 1], tuple(boxes), rest_table(boxes)))
            self.assertEqual((len(studio), list(studio)), (number + 1, list(PULLS[:number + 1])))
        self.assertEqual(state(studio), state(example()))
        self.assertEqual({part.__class__ for part in (studio.pulls, studio.boxes, studio.table)}, {tuple})

    def test_pulls_that_are_not_let(self):
        studio = example()
        marked = Studio(CARD.with_marks([(0, 2)]))
        for thing in (*NO_NUMBERS, (0, 0, 3), Anything()):
            self.refused(studio, BadPull, {"what": "pull"}, studio.pull, thing)
        self.refused(studio, BadPull, {"what": "columns"}, studio.pull, Pull(0, 2, 3))
        self.refused(studio, BadPull, {"what": "crease"}, studio.pull, Pull(0, 0, 3))
        self.refused(marked, BadPull, {"what": "mark"}, marked.pull, Pull(0, 1, 3))
        self.raises(BadPull, {"what": "crease"}, Studio.with_pulls, CARD, PULLS[0], PULLS[0], None)
        self.raises(BadPull, {"what": "pull"}, Studio.with_pulls, CARD, PULLS[0], None)

    def test_taking_back(self):
        studio = example()
        self.assertEqual(studio.take_back(1), PULLS[1])
        self.assertEqual(state(studio), state(Studio.with_pulls(CARD, PULLS[0], PULLS[2])))
        self.refused(studio, Rests, {"number": 0, "by": 1}, studio.take_back, 0)
        self.assertEqual((studio.take_back(1), studio.take_back(0)), (PULLS[2], PULLS[0]))
        self.assertEqual(state(studio), state(Studio(CARD)))

    def test_taking_back_whatever_nothing_rests_on(self):
        taken = 0
        for studio in some_studios(7):
            for number in range(len(studio)):
                resting = [by for by, row in enumerate(studio.table) if number in row]
                if resting:
                    self.refused(studio, Rests, {"number": number, "by": resting[0]}, studio.take_back, number)
                    continue
                taken += number < len(studio) - 1
                other = Studio.with_pulls(studio.start, *studio.pulls)
                self.assertEqual(other.take_back(number), studio.pulls[number])
                rest = studio.pulls[:number] + studio.pulls[number + 1:]
                self.assertEqual(state(other), state(Studio.with_pulls(studio.start, *rest)))
                self.assertEqual(other.boxes, studio.boxes[:number] + studio.boxes[number + 1:])
        self.assertGreater(taken, 20)

    def test_taking_down(self):
        studio = example()
        self.assertEqual(studio.take_down(0), (0, 1, 2))
        self.assertEqual(state(studio), state(Studio(CARD)))
        for studio in some_studios(7):
            for number in range(len(studio)):
                gone = [number]
                for by, row in enumerate(studio.table):
                    if set(row) & set(gone) and by not in gone:
                        gone.append(by)
                other = Studio.with_pulls(studio.start, *studio.pulls)
                self.assertEqual(other.take_down(number), tuple(sorted(gone)))
                kept = [k for k in range(len(studio)) if k not in gone]
                self.assertEqual(state(other), state(Studio.with_pulls(studio.start, *[studio.pulls[k] for k in kept])))
                self.assertEqual(other.boxes, tuple(studio.boxes[k] for k in kept))

    def test_wrong_numbers(self):
        studio = example()
        for thing in (*NO_NUMBERS, -1, 3, 10 ** 20):
            self.refused(studio, NoSuch, {"number": thing}, studio.take_back, thing)
            self.refused(studio, NoSuch, {"number": thing}, studio.take_down, thing)
        self.raises(NoSuch, {"number": 0}, Studio(CARD).take_back, 0)

    def test_what_holds_in_every_studio(self):
        for studio in some_studios(9):
            for one, other in combinations(studio.boxes, 2):
                self.assertFalse(one.meets(other))
                self.assertFalse(one.rests_on(other))


class ReplayTest(Raises, unittest.TestCase):
    def test_every_order(self):
        for studio in some_studios(5):
            before = state(studio)
            for order in let_orders(studio.table):
                other = studio.replay(order)
                self.assertIs(other.__class__, Studio)
                self.assertEqual((other.start, other.card), (studio.start, studio.card))
                self.assertEqual(other.pulls, tuple(studio.pulls[number] for number in order))
                self.assertEqual(other.boxes, tuple(studio.boxes[number] for number in order))
                self.assertEqual(state(studio.replay(list(order))), state(other))
            self.assertEqual(state(studio), before)

    def test_orders_that_are_not_let(self):
        tried = 0
        for studio in some_studios(4):
            for order in permutations(range(len(studio))):
                if order_fault(studio.table, order) is None:
                    continue
                tried += 1
                self.raises(TooEarly, dict(zip(("index", "on"), order_fault(studio.table, order))), studio.replay, order)
                # Some pull is not let at its turn or makes another box.
                try:
                    other = Studio.with_pulls(studio.start, *[studio.pulls[number] for number in order])
                except BadPull:
                    continue
                self.assertNotEqual(other.boxes, tuple(studio.boxes[number] for number in order))
        self.assertGreater(tried, 20)

    def test_the_new_studio_is_another_one(self):
        studio = example()
        other = studio.replay((0, 2, 1))
        other.take_down(0)
        self.assertEqual(state(studio), state(example()))

    def test_wrong_orders(self):
        studio = example()
        for thing in (*NO_SEQUENCES, (), (0, 1)):
            self.raises(BadOrder, {"index": 0, "what": "length"}, studio.replay, thing)
        self.raises(BadOrder, {"index": 1, "what": "number"}, studio.replay, (0, True, 2))
        self.raises(BadOrder, {"index": 2, "what": "double"}, studio.replay, [0, 1, 0])
        self.raises(TooEarly, {"index": 0, "on": 0}, studio.replay, (1, 0, 2))
        self.raises(TooEarly, {"index": 1, "on": 0}, Studio.with_pulls(
            Card.of_words(*["dddooo"] * 2), Pull(0, 0, 3), Pull(1, 1, 3), Pull(0, 0, 2)).replay, (1, 2, 0))
        self.assertEqual(state(studio), state(example()))

    def test_more_than_ten_pulls(self):
        studio = Studio.with_pulls(Card.of_words(*["ddoo"] * 11), *[Pull(c, c, 2) for c in range(11)])
        self.raises(BadTable, {"index": 10, "what": "many"}, studio.replay, None)
        self.raises(BadTable, {"index": 10, "what": "many"}, studio.replay, tuple(range(11)))
        self.assertEqual(studio.card_of(range_lot(11)).words, ("dodo",) * 11)
        self.assertEqual(studio.card_of((10,)).words, ("ddoo",) * 10 + ("dodo",))
        self.assertEqual(studio.take_down(4), (4,))
        self.assertEqual((len(studio), studio.card.words[4]), (10, "ddoo"))
        self.assertEqual(studio.replay(range_lot(10)[::-1]).card, studio.card)


def range_lot(many):
    return tuple(range(many))


class CardOfTest(Raises, unittest.TestCase):
    def test_all_closed_lots(self):
        for studio in some_studios(6):
            cards = []
            before = state(studio)
            for lot in closed_lots(studio.table):
                card = studio.card_of(list(lot))
                self.assertEqual(card, Studio.with_pulls(studio.start, *[studio.pulls[k] for k in lot]).card)
                self.assertEqual(studio.card_of(lot), card)
                self.assertNotIn(card, cards)
                cards.append(card)
            self.assertEqual(cards[0], studio.start)
            self.assertEqual(cards[-1], studio.card)
            self.assertEqual(state(studio), before)

    def test_wrong_lots(self):
        studio = example()
        for thing in (*NO_SEQUENCES, (0, 0), (1, 0), (3,), (-1,), [True], ("0",), (0, None), Anything(), [Anything()]):
            self.raises(BadLot, {"what": "lot"}, studio.card_of, thing)
        for lot in ((1,), (2,), [1, 2]):
            self.raises(BadLot, {"what": "open"}, studio.card_of, lot)
        self.assertEqual(state(studio), state(example()))


class TrialTest(Raises, unittest.TestCase):
    def test_a_trial(self):
        studio = Studio.with_pulls(CARD, PULLS[0])
        before = state(studio)
        with studio.trial() as same:
            self.assertIs(same, studio)
            studio.pull(PULLS[1])
            same.pull(PULLS[2])
            self.assertEqual(state(studio), state(example()))
        self.assertEqual(state(studio), before)
        self.assertEqual(studio.pull(PULLS[1]), 1)

    def test_from_when_the_block_began(self):
        studio = Studio(CARD)
        trial = studio.trial()
        studio.pull(PULLS[0])
        with trial:
            studio.take_down(0)
            self.assertEqual(state(studio), state(Studio(CARD)))
        self.assertEqual(state(studio), state(Studio.with_pulls(CARD, PULLS[0])))
        studio.pull(PULLS[1])
        with trial as same:
            same.take_down(0)
        self.assertEqual(state(studio), state(Studio.with_pulls(CARD, *PULLS[:2])))

    def test_nested(self):
        studio = Studio(CARD)
        with studio.trial():
            studio.pull(PULLS[0])
            with studio.trial() as same:
                same.pull(PULLS[1])
                with studio.trial():
                    studio.take_down(0)
                self.assertEqual(len(studio), 2)
            self.assertEqual(state(studio), state(Studio.with_pulls(CARD, PULLS[0])))
        self.assertEqual(state(studio), state(Studio(CARD)))

    def test_left_by_an_error(self):
        studio = example()
        for error in (ValueError, KeyError, BadPull):
            with self.assertRaises(error):
                with studio.trial():
                    studio.take_down(0)
                    raise error("x")
            self.assertEqual(state(studio), state(example()))
        with self.assertRaises(Rests):
            with studio.trial():
                studio.take_back(2)
                studio.take_back(0)
        self.assertEqual(state(studio), state(example()))

    def test_tried(self):
        studio = example()
        told = []

        def call(same):
            told.append(same)
            same.take_back(2)
            return [same.card.words, len(same)]

        self.assertEqual(studio.tried(call), [("doddoo", "ddodoo"), 2])
        self.assertIs(told[0], studio)
        self.assertEqual(state(studio), state(example()))
        self.assertEqual(studio.tried(lambda same: same.tried(lambda one: one.take_down(0))), (0, 1, 2))
        self.assertIsNone(studio.tried(lambda same: None))
        self.raises(Rests, {"number": 0, "by": 1}, studio.tried, lambda same: (same.take_back(2), same.take_back(0)))
        self.assertEqual(state(studio), state(example()))

    def test_left_early(self):
        studio = example()

        def call():
            for number in (2, 1, 0):
                with studio.trial():
                    studio.take_down(number)
                    if number == 1:
                        return number
            return None

        self.assertEqual(call(), 1)
        self.assertEqual(state(studio), state(example()))
