"""What the document promises over the whole program: its names, and that nothing handed in or told is shared."""

import copy
import inspect
import unittest

from by_the_words import drawn_hands
from meldhouse import errors, houses, layings, melds, notes, search
from meldhouse.houses import House

INTERFACE = [
    (houses.House, ["most", "colours"]),
    (houses.is_hand, ["house", "hand", "jokers"]),
    (melds.is_meld, ["house", "meld"]),
    (melds.tiles_of, ["house", "meld"]),
    (melds.melds, ["house"]),
    (layings.worth, ["house", "hand", "jokers", "laying"]),
    (layings.left, ["house", "hand", "jokers", "laying"]),
    (search.best, ["house", "hand", "jokers"]),
    (search.goes_out, ["house", "hand", "jokers"]),
    (search.helpers, ["house", "hand", "jokers"]),
    (notes.shown, ["house", "hand", "jokers"]),
    (notes.read, ["house", "text"]),
]
HAND = [(1, 0), (1, 1), (1, 2), (2, 0), (2, 0), (3, 0), (5, 1)]
LAYING = [("group", 1, (0, 1, 2)), ("run", 0, 1, 3)]
OF_A_HAND = [houses.is_hand, search.best, search.goes_out, search.helpers, notes.shown]
OF_A_LAYING = [layings.worth, layings.left]


def lists_in(told):
    if isinstance(told, list):
        yield told
    if isinstance(told, (list, tuple)):
        for part in told:
            yield from lists_in(part)


class Interface(unittest.TestCase):
    def test_names_of_the_arguments(self):
        for asked, names in INTERFACE:
            with self.subTest(asked=asked.__name__):
                self.assertEqual(list(inspect.signature(asked).parameters), names)

    def test_refusals_are_there(self):
        for name in ["MeldError", "BadHouse", "BadHand", "BadLaying", "BadNote"]:
            self.assertTrue(issubclass(getattr(errors, name), ValueError))


class HandedIn(unittest.TestCase):
    def setUp(self):
        self.house = House(6, 3)

    def answers(self, hand, jokers, laying):
        told = [asked(self.house, hand, jokers) for asked in OF_A_HAND]
        return told + [asked(self.house, hand, jokers, laying) for asked in OF_A_LAYING]

    def test_stays_as_it_was(self):
        for hand in [HAND] + list(drawn_hands(41, 6, 3, 20)):
            for jokers in [0, 1, 2]:
                laying = search.best(self.house, hand, jokers)[1]
                before = copy.deepcopy((hand, laying))
                self.answers(hand, jokers, laying)
                self.assertEqual((hand, laying), before)
        self.assertEqual(vars(self.house), vars(House(6, 3)))

    def test_stays_as_it_was_when_it_is_refused(self):
        hand, laying = list(HAND[::-1]), list(LAYING[::-1])
        for asked in OF_A_HAND[1:]:
            with self.assertRaises(errors.BadHand):
                asked(self.house, hand, 1)
        for asked in OF_A_LAYING:
            with self.assertRaises(errors.BadHand):
                asked(self.house, hand, 1, laying)
            with self.assertRaises(errors.BadLaying):
                asked(self.house, HAND, 1, laying)
        self.assertEqual((hand, laying), (HAND[::-1], LAYING[::-1]))

    def test_may_be_changed_later(self):
        hand, laying = list(HAND), list(LAYING)
        told = self.answers(hand, 1, laying)
        expected = copy.deepcopy(told)
        hand.pop()
        laying.clear()
        self.assertEqual(told, expected)
        self.assertEqual(self.answers(HAND, 1, LAYING), expected)
        self.assertNotEqual(self.answers(hand, 1, laying), expected)

    def test_answers_hang_on_nothing_asked_before(self):
        for hand in drawn_hands(42, 6, 3, 10):
            for jokers in [2, 0, 1, 0, 2]:
                self.assertEqual(self.answers(hand, jokers, []), self.answers(list(hand), jokers, []))
        other = House(6, 2)
        self.assertEqual(search.best(other, [(1, 0)], 2), (1, [("run", 0, 1, 3)]))
        self.assertEqual(search.best(self.house, [(1, 0)], 2), (1, [("group", 1, (0, 1, 2))]))


class Told(unittest.TestCase):
    def setUp(self):
        self.house = House(6, 3)

    def ask_all(self):
        return [
            search.best(self.house, self.hand, 1), search.helpers(self.house, self.hand[:2], 1),
            layings.left(self.house, self.hand, 1, self.laying), layings.left(self.house, self.hand, 1, []),
            notes.read(self.house, "1a 1b 1c *"), melds.melds(self.house),
            melds.tiles_of(self.house, ("run", 0, 1, 3)),
        ]

    def test_no_two_lists_are_one(self):
        self.hand, self.laying = list(HAND), list(LAYING)
        told = [self.hand, self.laying, self.ask_all(), self.ask_all()]
        found = list(lists_in(told))
        self.assertEqual(len({id(one) for one in found}), len(found))

    def test_may_be_changed(self):
        self.hand, self.laying = list(HAND), list(LAYING)
        expected = copy.deepcopy(self.ask_all())
        told = list(lists_in(self.ask_all()))
        for one in told[1:]:
            self.assertTrue(one)
            one.clear()
        self.assertEqual(self.ask_all(), expected)
        self.assertEqual((self.hand, self.laying), (HAND, LAYING))


if __name__ == "__main__":
    unittest.main()
