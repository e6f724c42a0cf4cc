import random
import unittest
from fractions import Fraction

from helpers import NO_NUMBERS, NO_SEQUENCES, Anything, Raises, fraction_of
from slitstairs.allcards import all_cards, card_at, how_many_cards
from slitstairs.cards import Card
from slitstairs.equations import equation_rows
from slitstairs.errors import BadKnown, NotFollowing
from slitstairs.follow import Follows, Stuck, card_follows, follow_fault, follow_of, opening_of
from slitstairs.motions import OnlyOpens, motion_fault, only_opens
from slitstairs.panels import panels_of

EXAMPLE = Card.of_words("ddoododo", "dododdoo")
PAIR = Card.of_words("dododo", "ddoodo")


def some_cards():
    chance = random.Random(51)
    for size, width in ((1, 1), (1, 2), (2, 1), (2, 2), (3, 1), (3, 2), (4, 1)):
        yield from all_cards(size, width)
    for size, width in ((2, 3), (3, 3), (4, 2), (4, 3), (5, 3), (6, 4), (6, 12)):
        for _ in range(12 if width < 12 else 2):
            words = card_at(size, width, chance.randrange(how_many_cards(size, width))).words
            words = [chance.choice([words[c], words[max(c - 1, 0)]]) for c in range(width)]
            places = [(c, t) for c in range(width - 1) for t in range(1, 2 * size - 1)]
            yield Card.of_words(*words, marks=chance.sample(places, chance.choice((0, 0, 2))))


def some_lots(card, many=4):
    chance = random.Random(52)
    panels = list(range(len(panels_of(card))))
    yield ()
    for _ in range(many):
        yield chance.sample(panels, chance.randrange(min(len(panels), 4) + 1))


def slow_rounds(card, known):
    """The rounds, and all panels known at the end, with sets."""
    rows = [[(row.name, {panel for panel, _ in row.factors}) for row in equation_rows(card, letter)] for letter in "do"]
    known = set(known)
    rounds = []
    while True:
        new = {}
        for system in rows:
            for name, borne in system:
                if len(borne - known) == 1:
                    new.setdefault((borne - known).pop(), name)
        if not new:
            return tuple(rounds), known
        rounds.append(tuple(sorted(new.items())))
        known |= set(new)


class FollowOfTest(Raises, unittest.TestCase):
    def test_the_example(self):
        told = follow_of(EXAMPLE)
        self.assertEqual(told.rounds[1:], (((7, ("cell", 0, 3)),), ((2, ("column", 1)),), ((4, ("column", 0)),)))
        self.assertEqual((told.known, told.rest), ((0, 2, 4, 5, 7), (1, 3, 6)))
        self.assertEqual([panel for panel, _ in told.rounds[0]], [0, 5])
        self.assertEqual(told.rounds[0], ((0, ("wall",)), (5, ("floor",))))
        self.assertTrue(only_opens(EXAMPLE))
        self.assertEqual((card_follows(EXAMPLE), card_follows(PAIR)), (False, True))

    def test_against_sets(self):
        kinds = []
        for card in some_cards():
            many = len(panels_of(card))
            for known in some_lots(card):
                rounds, end = slow_rounds(card, known)
                found = follow_of(card, tuple(known))
                self.assertEqual(found.rounds, rounds)
                rest = tuple(sorted(set(range(many)) - end))
                if rest:
                    self.assertIs(found.__class__, Stuck)
                    self.assertEqual((found.known, found.rest), (tuple(sorted(end)), rest))
                else:
                    self.assertIs(found.__class__, Follows)
                    self.assertEqual(list(vars(found)), ["rounds"])
                self.assertEqual(follow_of(card, known=list(known)), found)
                self.assertIsNone(follow_fault(card, found, known=known))
                kinds.append(found.__class__)
            self.assertIs(card_follows(card), not slow_rounds(card, ())[1] < set(range(many)))
        self.assertGreater(min(kinds.count(Follows), kinds.count(Stuck)), 50)

    def test_everything_is_a_tuple(self):
        told = follow_of(EXAMPLE, [1])
        self.assertEqual({part.__class__ for part in (told.rounds, *told.rounds, *told.steps, told.steps)}, {tuple})
        stuck = follow_of(EXAMPLE)
        self.assertEqual({part.__class__ for part in (stuck.known, stuck.rest, stuck.rounds)}, {tuple})

    def test_known_from_the_beginning(self):
        self.assertEqual(follow_of(EXAMPLE, (1,)).__class__, Follows)
        every = tuple(range(8))
        self.assertEqual(follow_of(EXAMPLE, every).rounds, ())
        self.assertEqual(follow_of(EXAMPLE, every[::-1]), Follows(()))
        # Of what is known from the beginning no round tells.
        self.assertEqual([panel for panel, _ in follow_of(EXAMPLE, (0, 5)).rounds[0]], [7])

    def test_lists_are_neither_kept_nor_changed(self):
        known = [1, 0]
        told = follow_of(EXAMPLE, known)
        self.assertEqual(known, [1, 0])
        known.append(2)
        self.assertEqual(told, follow_of(EXAMPLE, (0, 1)))

    def test_steps_and_round_of(self):
        for card in some_cards():
            for known in some_lots(card, 1):
                told = follow_of(card, known)
                self.assertEqual(told.steps, tuple(pair for pairs in told.rounds for pair in pairs))
                numbers = {panel: number for number, pairs in enumerate(told.rounds, 1) for panel, _ in pairs}
                for panel in range(len(panels_of(card))):
                    other = None if isinstance(told, Stuck) and panel in told.rest else 0
                    self.assertEqual(told.round_of(panel), numbers.get(panel, other))

    def test_round_of_by_hand(self):
        told = follow_of(EXAMPLE)
        self.assertEqual([told.round_of(panel) for panel in range(8)], [1, None, 3, None, 4, 1, None, 2])
        told = follow_of(EXAMPLE, (1, 2))
        self.assertEqual((told.round_of(1), told.round_of(2), told.round_of(0)), (0, 0, 1))
        stuck = Stuck((), (4,), (5,))
        self.assertEqual((stuck.round_of(4), stuck.round_of(5), stuck.round_of(6), stuck.steps), (0, None, 0, ()))

    def test_any_order_of_steps_comes_to_the_same_end(self):
        chance = random.Random(55)
        for card in some_cards():
            if card.width > 4:
                continue
            rows = [row for letter in "do" for row in equation_rows(card, letter)]
            known = set()
            while True:
                steps = [(set(panel for panel, _ in row.factors) - known) for row in rows]
                steps = [step for step in steps if len(step) == 1]
                if not steps:
                    break
                known |= chance.choice(steps)
            self.assertEqual(known, slow_rounds(card, ())[1])

    def test_more_known_from_the_beginning(self):
        chance = random.Random(57)
        for card in some_cards():
            many = len(panels_of(card))
            for known in some_lots(card, 2):
                few, more = follow_of(card, known), follow_of(card, sorted({*known, chance.randrange(many)}))
                for panel in range(many):
                    if few.round_of(panel) is not None:
                        self.assertLessEqual(more.round_of(panel), few.round_of(panel))

    def test_turned_cards(self):
        for card in some_cards():
            rounds, turned = (follow_of(each).rounds for each in (card, card.turned()))
            cells = {panel.number: set(panel.cells) for panel in panels_of(card)}
            led = {panel.number: {(card.width - 1 - c, t) for c, t in panel.cells} for panel in panels_of(card.turned())}
            self.assertEqual([sorted(sorted(cells[panel]) for panel, _ in pairs) for pairs in rounds],
                             [sorted(sorted(led[panel]) for panel, _ in pairs) for pairs in turned])

    def test_wrong_known(self):
        calls = (lambda known: follow_of(EXAMPLE, known), lambda known: follow_fault(EXAMPLE, None, known),
                 lambda known: follow_fault(EXAMPLE, Follows(()), known=known))
        for call in calls:
            for thing in NO_SEQUENCES:
                self.raises(BadKnown, {"index": 0, "what": "known"}, call, thing)
            for thing in (*NO_NUMBERS, -1, 8, 10 ** 20, Anything()):
                self.raises(BadKnown, {"index": 0, "what": "panel"}, call, (thing, thing))
                self.raises(BadKnown, {"index": 2, "what": "panel"}, call, [1, 0, thing, 1])
            self.raises(BadKnown, {"index": 1, "what": "double"}, call, [1, 1, None])
            self.raises(BadKnown, {"index": 2, "what": "double"}, call, (7, 3, 7))


class FollowFaultTest(unittest.TestCase):
    def test_steps_one_by_one_in_any_order(self):
        chance = random.Random(56)
        for card in some_cards():
            if card.width > 4:
                continue
            letters = {panel.number: panel.letter for panel in panels_of(card)}
            systems = {letter: equation_rows(card, letter) for letter in "do"}
            for known in some_lots(card, 2):
                rounds, now = [], set(known)
                while True:
                    steps = [(panel, row.name) for letter in "do" for row in systems[letter] for panel, _ in row.factors
                             if {other for other, _ in row.factors} - now == {panel}]
                    if not steps:
                        break
                    chance.shuffle(steps)
                    lot = [step for k, step in enumerate(steps) if step[0] not in [panel for panel, _ in steps[:k]]]
                    rounds.append(tuple(lot[:chance.randrange(1, len(lot) + 1)]))
                    now |= {panel for panel, _ in rounds[-1]}
                rest = tuple(sorted(set(letters) - now))
                result = Stuck(tuple(rounds), tuple(sorted(now)), rest) if rest else Follows(tuple(rounds))
                self.assertIsNone(follow_fault(card, result, known))

    def fault(self, rounds, known=()):
        """Of a Follows and of a Stuck, which must agree as long as the rounds are wrong."""
        found = follow_fault(PAIR, Follows(rounds), known)
        self.assertEqual(follow_fault(PAIR, Stuck(rounds, None, None), known), found)
        return found

    def test_words_of_rounds(self):
        rounds = follow_of(PAIR).rounds
        self.assertEqual(rounds[0], ((0, ("wall",)), (5, ("floor",))))
        first, (wall, floor) = rounds[0], rounds[0]
        self.assertEqual(self.fault(((),)), "round")
        self.assertEqual(self.fault((first, (), *rounds[1:])), "round")
        self.assertEqual(self.fault((*rounds, ())), "round")
        for panel in (-1, 6, 10 ** 20):
            self.assertEqual(self.fault(((wall, (panel, ("floor",))),)), "panel")
        self.assertEqual(self.fault((first,), (0,)), "panel")
        self.assertEqual(self.fault((first, (wall,))), "panel")
        self.assertEqual(self.fault(((wall, wall),)), "panel")
        for name in ((), ("floor", 0), ("roof",), ("column",), ("column", 2), ("column", -1), ("cell", 0, 1), ("cell", 0),
                     ("cell", 1, 0), ("column", True), ("column", None), (["wall"],), ("wall", ())):
            self.assertEqual(self.fault((((0, name),),)), "name")
        # The wall is an equation of the downs, the floor one of the outs.
        self.assertEqual(self.fault((((0, ("floor",)),),)), "name")
        self.assertEqual(self.fault((((5, ("wall",)),),)), "name")
        self.assertEqual(self.fault((((2, ("wall",)),),)), "factor")
        self.assertEqual(self.fault((first, ((4, ("wall",)),))), "factor")
        self.assertEqual(self.fault((((0, ("column", 0)),),)), "early")
        self.assertEqual(self.fault((((4, ("column", 1)),),)), "early")
        # Not ahead of this round: what an earlier pair of the same round makes known does not count.
        later = rounds[1][0]
        self.assertEqual(self.fault(((*first, later),)), "early")

    def test_the_first_word_pair_by_pair(self):
        self.assertEqual(self.fault((((9, ("x",)),), ())), "panel")
        self.assertEqual(self.fault((((0, ("x",)), (9, ("x",))),)), "name")
        self.assertEqual(self.fault((((0, ("wall",)), (2, ("wall",)), (3, ("column", 0))),)), "factor")

    def test_rest_of_a_follows(self):
        rounds = follow_of(PAIR).rounds
        self.assertIsNone(follow_fault(PAIR, Follows(rounds)))
        for k in range(len(rounds)):
            self.assertEqual(follow_fault(PAIR, Follows(rounds[:k])), "rest")
        self.assertEqual(follow_fault(EXAMPLE, Follows(follow_of(EXAMPLE).rounds)), "rest")
        self.assertIsNone(follow_fault(EXAMPLE, Follows(()), tuple(range(8))))

    def test_stuck(self):
        told = follow_of(EXAMPLE)

        def fault(**changes):
            return follow_fault(EXAMPLE, Stuck(**{**vars(told), **changes}))

        self.assertIsNone(fault())
        for known in ((), told.known[1:], told.known[::-1], (*told.known, 7), (*told.known, 1), list(told.known), None, 5,
                      (False, *told.known[1:]), "02457", (0, 2, 4, 5, "7")):
            self.assertEqual(fault(known=known, rest=None), "known")
        for rest in ((), told.rest[1:], told.rest[::-1], (*told.rest, 7), list(told.rest), None, 5, (True, 3, 6), "136"):
            self.assertEqual(fault(rest=rest), "rest")
        self.assertEqual(fault(rounds=told.rounds[:-1], known=(0, 2, 5, 7), rest=(1, 3, 4, 6)), "open")
        self.assertEqual(fault(rounds=(), known=(), rest=tuple(range(8))), "open")
        self.assertEqual(fault(rounds=told.rounds[:-1]), "known")

    def test_a_stuck_that_follows(self):
        rounds = follow_of(PAIR).rounds
        self.assertEqual(follow_fault(PAIR, Stuck(rounds, tuple(range(6)), ())), "rest")
        self.assertEqual(follow_fault(PAIR, Stuck(rounds, tuple(range(5)), (5,))), "known")
        self.assertEqual(follow_fault(EXAMPLE, Stuck((), tuple(range(8)), ()), tuple(range(8))), "rest")

    def test_known_from_the_beginning_counts(self):
        told = follow_of(EXAMPLE, (2, 4))
        self.assertIsNone(follow_fault(EXAMPLE, told, [4, 2]))
        self.assertIsNotNone(follow_fault(EXAMPLE, told))

    def test_spoilt_in_one_place(self):
        for card in list(some_cards())[::5]:
            told = follow_of(card)
            rounds = told.rounds
            for k, pairs in enumerate(rounds):
                for j, (panel, name) in enumerate(pairs):
                    gone = (*rounds[:k], (*pairs[:j], *pairs[j + 1:]), *rounds[k + 1:])
                    spoilt = Follows(gone) if isinstance(told, Follows) else Stuck(gone, told.known, told.rest)
                    self.assertIsNotNone(follow_fault(card, spoilt))


class OpeningOfTest(Raises, unittest.TestCase):
    def slow_combinations(self, card):
        """The combinations by panel, along the steps, with fractions."""
        letters = {panel.number: panel.letter for panel in panels_of(card)}
        systems = {letter: equation_rows(card, letter) for letter in "do"}
        found = {}
        for pairs in slow_rounds(card, ())[0]:
            for panel, name in pairs:
                system = systems[letters[panel]]
                place = [row.name for row in system].index(name)
                factors = dict(system[place].factors)
                sums = [Fraction(int(k == place)) for k in range(len(system))]
                for other, factor in factors.items():
                    if other != panel:
                        sums = [one - factor * two for one, two in zip(sums, found[other])]
                found[panel] = [one / factors[panel] for one in sums]
        return [found[panel] for panel in sorted(found)]

    def test_all_cards_that_follow(self):
        follows = 0
        for card in some_cards():
            told = follow_of(card)
            if isinstance(told, Stuck):
                self.raises(NotFollowing, {"rest": told.rest}, opening_of, card)
                continue
            follows += 1
            found = opening_of(card)
            self.assertIs(found.__class__, OnlyOpens)
            self.assertIsNone(motion_fault(card, found))
            self.assertTrue(only_opens(card))
            ratios = [[fraction_of(ratio) for ratio in combination] for combination in found.combinations]
            self.assertEqual(ratios, self.slow_combinations(card))
            self.assertEqual({part.__class__ for part in (found.combinations, *found.combinations)}, {tuple})
        self.assertGreater(follows, 50)

    def test_by_hand(self):
        found = opening_of(Card.of_words("ddoo"))
        self.assertEqual([[str(ratio) for ratio in row] for row in found.combinations], [["1", "0"], ["1", "0"]])
        found = opening_of(PAIR)
        self.assertEqual([str(ratio) for ratio in found.combinations[3]], ["-1/2", "0", "1/2", "0", "0", "0", "0"])

    def test_great_cards(self):
        for words in (["ddddddoooooo"] * 12, ["ddddddoooooo", "dddddodooooo"] * 6, ["ddddodoodooo", "dddddodooooo"] * 6):
            card = Card.of_words(*words)
            if card_follows(card):
                self.assertIsNone(motion_fault(card, opening_of(card)))

    def test_stuck(self):
        self.raises(NotFollowing, {"rest": (1, 3, 6)}, opening_of, EXAMPLE)
        self.raises(NotFollowing, {"rest": (1, 2, 3, 4)}, opening_of, Card.of_words("dododo"))


class EqualityTest(unittest.TestCase):
    def test_equality(self):
        follows, stuck = Follows((((0, ("wall",)),),)), Stuck((((0, ("wall",)),),), (0,), (1,))
        self.assertEqual(follows, Follows((((0, ("wall",)),),)))
        self.assertEqual(stuck, Stuck((((0, ("wall",)),),), (0,), (1,)))
        for other in (Follows(()), stuck, None, follows.rounds, Stuck((((0, ("wall",)),),), (), ())):
            self.assertFalse(follows == other)
            self.assertTrue(follows != other)
        for other in (Stuck((), (0,), (1,)), Stuck(stuck.rounds, (), (1,)), Stuck(stuck.rounds, (0,), ()), follows, None):
            self.assertFalse(stuck == other)
            self.assertTrue(stuck != other)
        self.assertIs(follows.__eq__(Anything()), False)
        self.assertIs(stuck.__eq__(Anything()), False)
        self.assertEqual((vars(Follows([1])), vars(Stuck("x", [2], None))),
                         ({"rounds": [1]}, {"rounds": "x", "known": [2], "rest": None}))
