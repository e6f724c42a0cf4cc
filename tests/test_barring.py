import random
import unittest

from helpers import NO_NUMBERS, Anything, slow_granted, some_wish
from slitstairs.barring import Barred, bar_fault, bar_of
from slitstairs.prints import Print
from slitstairs.wishes import Wish

WISH = Wish(Print(((0, 0), (0, 0))), ((0,), (0,)), ((None,), (1,)))
# Of the second column no word is granted: behind d the letter o misses.
LONE = Wish(Print(((1, 2, 1, 1, 2, 2),)), ((1, 2, 7),), ((1, 2, 2),))
REACHED = (((0, 0),), ((1, 0),), ((2, 0),), ((2, 1),), ())


def some_wishes():
    chance = random.Random(75)
    for size, width in ((1, 1), (1, 3), (2, 2), (3, 2), (4, 3), (5, 1), (6, 2)):
        for wished in (20, 50, 80, 100):
            for inks in (1, 2, 3, 4):
                yield some_wish(chance, size, width, wished, inks, Print, Wish)


def slow_reached(wish, c):
    """The web places by boundary, by going through all ways of moves."""
    layers = [{(0, 0)}]
    while layers[-1] and len(layers) <= 2 * wish.size:
        new = set()
        for i, j in layers[-1]:
            ink = wish.printed.inks[c][i + j] if i + j < 2 * wish.size else None
            if i < wish.size and wish.front[c][i] in (None, ink):
                new.add((i + 1, j))
            if j < i and wish.top[c][j] in (None, ink):
                new.add((i, j + 1))
        layers.append(new)
    return tuple(tuple(sorted(layer)) for layer in layers)


class BarOfTest(unittest.TestCase):
    def test_by_hand(self):
        self.assertEqual(bar_of(WISH), Barred(1, (((0, 0),), ((1, 0),), ())))
        self.assertEqual(bar_of(LONE), Barred(0, REACHED))
        self.assertIsNone(bar_of(Wish(Print(((1, 2, 1, 1, 2, 2),)), ((1, 2, 1),), ((1, 2, 2),))))
        first = Wish(Print.plain(2, 1), ((1, None),), ((None, None),))
        self.assertEqual(bar_of(first), Barred(0, (((0, 0),), ())))

    def test_the_last_move(self):
        wish = Wish(Print.plain(2, 1), ((None, None),), ((None, 1),))
        self.assertEqual(bar_of(wish).reached, (((0, 0),), ((1, 0),), ((1, 1), (2, 0)), ((2, 1),), ()))
        self.assertIsNone(bar_fault(wish, bar_of(wish)))

    def test_against_all_words(self):
        kinds = []
        for wish in some_wishes():
            barred = [c for c in range(wish.width) if not slow_granted(wish, c)]
            found = bar_of(wish)
            kinds.append(found is None)
            if not barred:
                self.assertIsNone(found)
                continue
            self.assertEqual((found.__class__, found.column), (Barred, barred[0]))
            self.assertEqual(found.reached, slow_reached(wish, barred[0]))
            self.assertEqual({part.__class__ for part in (found.reached, *found.reached)}, {tuple})
            self.assertIsNone(bar_fault(wish, found))
        self.assertGreater(kinds.count(True), 10)
        self.assertGreater(kinds.count(False), 10)

    def test_equality(self):
        self.assertEqual(Barred(1, ((),)), Barred(1, ((),)))
        for other in (Barred(0, ((),)), Barred(1, ()), None, (1, ((),))):
            self.assertFalse(Barred(1, ((),)) == other)
        self.assertIs(Barred(1, ()).__eq__(Anything()), False)
        self.assertEqual(vars(Barred(None, [1])), {"column": None, "reached": [1]})


class BarFaultTest(unittest.TestCase):
    def fault(self, reached, column=0, wish=LONE):
        return bar_fault(wish, Barred(column, reached))

    def test_right_papers(self):
        self.assertIsNone(self.fault(REACHED))
        # Another order, further web places and further entries.
        wish = Wish(Print.plain(2, 1), ((None, None),), ((None, 1),))
        self.assertIsNone(self.fault((((0, 0),), ((1, 0),), ((2, 0), (1, 1)), ((2, 1),), ()), wish=wish))
        two = Wish(Print.plain(2, 1), ((None, 1),), ((1, None),))
        self.assertIsNone(self.fault((((0, 0),), ((1, 0),), ()), wish=two))
        self.assertIsNone(self.fault((((0, 0),), ((1, 0),), ((1, 1),), ()), wish=two))
        self.assertIsNone(self.fault((((0, 0), (0, 0)), ((1, 0),), ((1, 1),), (), ()), wish=two))

    def test_lists_in_place_of_tuples(self):
        self.assertIsNone(self.fault([[list(place) for place in entry] for entry in REACHED]))
        self.assertEqual(self.fault([[], *[[list(place) for place in entry] for entry in REACHED[1:]]]), "start")

    def test_column(self):
        for thing in (*NO_NUMBERS, -1, 1, 10 ** 20):
            self.assertEqual(self.fault((), column=thing), "column")
        self.assertEqual(self.fault(REACHED, column=0, wish=WISH), "rows")

    def test_rows(self):
        for reached in ((), (((0, 0),),), REACHED + ((), (), ()), (((0, 0),),) * 8):
            self.assertEqual(self.fault(reached), "rows")
        self.assertIsNone(self.fault(REACHED + ((), ())))

    def test_place(self):
        bad = ((0, 1), (3, -1), (4, 0), (1, 2), (2, 2), (1, 0), (3, 1), (2.0, 1), ("2", 1), (True, 1), (2,), (2, 1, 0),
               None, 3, "21", (None, None), (3, False))
        for thing in bad:
            self.assertEqual(self.fault((*REACHED[:3], (thing,), ())), "place")
            self.assertEqual(self.fault((*REACHED[:3], ((2, 1), thing), ())), "place")
        self.assertEqual(self.fault((((0, 0),), ((1, 0),), ((2, 0),), ((2, 1),), ((3, 2),))), "place")
        self.assertEqual(self.fault(((), ((0, 0),), ())), "place")
        for k, thing in ((0, (1, -1)), (1, (2, -1)), (2, (3, -1)), (2, (-1, 3)), (1, (0, 1))):
            self.assertEqual(self.fault((*REACHED[:k], (*REACHED[k], thing), *REACHED[k + 1:])), "place")

    def test_start(self):
        self.assertEqual(self.fault(((), ())), "start")
        self.assertEqual(self.fault(((), *REACHED[1:])), "start")

    def test_move(self):
        for k in range(1, 4):
            spoilt = [*REACHED[:k], (), *REACHED[k + 1:]]
            self.assertEqual(self.fault(tuple(spoilt)), "move")
        wish = Wish(Print.plain(2, 1), ((None, None),), ((None, 1),))
        self.assertEqual(self.fault((((0, 0),), ((1, 0),), ((2, 0),), ((2, 1),), ()), wish=wish), "move")
        self.assertEqual(self.fault((((0, 0),), ((1, 0),), ((1, 1),), ((2, 1),), ()), wish=wish), "move")
        # A place that is not reached must be gone on from, too.
        self.assertEqual(self.fault((*REACHED[:3], ((2, 1), (3, 0)), ())), "move")

    def test_end(self):
        self.assertEqual(self.fault(REACHED[:4]), "end")
        self.assertEqual(self.fault((*REACHED[:4], ((2, 2),))), "end")
        self.assertEqual(self.fault((((0, 0),), ((1, 0),))), "end")

    def test_no_paper_bars_a_column_with_a_granted_word(self):
        chance = random.Random(76)
        for wish in some_wishes():
            for c in range(wish.width):
                if slow_granted(wish, c):
                    reached = list(slow_reached(wish, c))
                    cut = chance.randrange(1, len(reached))
                    self.assertEqual(bar_fault(wish, Barred(c, tuple(reached[:cut]) + ((),))),
                                     "move" if cut > 0 and len(reached[:cut]) + 1 <= 2 * wish.size + 1 else "rows")
                    self.assertEqual(bar_fault(wish, Barred(c, tuple(reached))), "end")

    def test_spoilt_in_one_place(self):
        for wish in some_wishes():
            paper = bar_of(wish)
            if paper is not None:
                for k, entry in enumerate(paper.reached):
                    for gone in entry:
                        spoilt = tuple(place for place in entry if place != gone)
                        found = (*paper.reached[:k], spoilt, *paper.reached[k + 1:])
                        word = "start" if k == 0 else "move"
                        self.assertEqual(bar_fault(wish, Barred(paper.column, found)), word)
