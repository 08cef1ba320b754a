import itertools
import unittest
from collections import Counter

from by_the_words import (
    all_hands, all_layings, bad_hands, best_by_the_words, drawn_hands, goes_out_by_the_words, helpers_by_the_words,
    house_tiles, worth_by_the_words,
)
from meldhouse.errors import BadHand
from meldhouse.houses import House
from meldhouse.layings import left, worth
from meldhouse.search import best, goes_out, helpers

SMALL_HOUSES = [(3, 1), (4, 1), (5, 1), (3, 2)]
DRAWN_FROM = [(7, 1), (13, 1), (5, 2), (9, 2), (3, 3), (5, 3), (13, 3), (3, 4), (4, 4), (6, 4)]
LONG_RUN = [(number, 0) for number in range(1, 13)]
# Hands of 12 tiles with many ways to lay them out.
FULL_HANDS = [
    LONG_RUN,
    [(number, 0) for number in range(2, 14)],
    sorted([(number, 2) for number in range(4, 10)] * 2),
    [(number, colour) for number in [7, 8, 9] for colour in range(4)],
    sorted([(6, 1), (6, 2)] * 2 + [(number, colour) for number in [7, 8, 9, 10] for colour in [0, 3]]),
    sorted([(12, colour) for colour in range(3)] * 2 + [(13, colour) for colour in range(3)] * 2),
    [(number, number % 4) for number in range(1, 13)],
]


class SearchCase(unittest.TestCase):
    def setUp(self):
        self.house = House(7, 4)

    def finds(self, hand, jokers, value, laying, house=None):
        told = best(house or self.house, hand, jokers)
        self.assertEqual(told, (value, laying))
        self.assertEqual((type(told), type(told[1])), (tuple, list))


class BestOfKnownHands(SearchCase):
    def test_nothing_to_lay_out(self):
        for jokers in [0, 1, 2]:
            self.finds([], jokers, 0, [])
        self.finds([(1, 0), (2, 0), (2, 0), (4, 0), (7, 1), (7, 1), (7, 2)], 0, 0, [])
        self.finds([(5, 1)], 1, 0, [])

    def test_one_meld(self):
        self.finds([(1, 0), (2, 0), (3, 0)], 0, 6, [("run", 0, 1, 3)])
        self.finds([(4, 0), (4, 1), (4, 3), (5, 3)], 0, 12, [("group", 4, (0, 1, 3))])

    def test_the_greatest_worth_goes_ahead_of_the_order(self):
        self.finds([(1, 0), (1, 1), (1, 2), (2, 2), (3, 2)], 0, 6, [("run", 2, 1, 3)])
        self.finds([(1, 0), (2, 0), (3, 0), (4, 0)], 0, 10, [("run", 0, 1, 4)])

    def test_the_same_meld_twice(self):
        hand = sorted([(2, 1), (3, 1), (4, 1)] * 2)
        self.finds(hand, 0, 18, [("run", 1, 2, 3), ("run", 1, 2, 3)])
        self.finds(hand[1:], 1, 16, [("run", 1, 2, 3), ("run", 1, 2, 3)])

    def test_of_the_same_worth_groups_stand_ahead_of_runs(self):
        hand = house_tiles(3, 3)
        self.finds(hand, 0, 18, [("group", number, (0, 1, 2)) for number in [1, 2, 3]], House(3, 3))

    def test_of_the_same_worth_the_lesser_first_meld(self):
        self.finds([(2, 0), (3, 0)], 1, 5, [("run", 0, 1, 3)])
        self.finds([(2, 0), (3, 0)], 2, 5, [("run", 0, 1, 3)])
        self.finds([(2, 0)], 2, 2, [("group", 2, (0, 1, 2))])
        self.finds([(2, 0)], 2, 2, [("run", 0, 1, 3)], House(7, 2))
        self.finds([(2, 3)], 2, 2, [("group", 2, (0, 1, 3))])

    def test_the_lesser_meld_may_be_the_one_with_a_needless_joker(self):
        self.finds([(2, 0), (2, 1), (2, 3)], 1, 6, [("group", 2, (0, 1, 2, 3))])
        self.finds([(2, 0), (2, 1), (2, 3)], 0, 6, [("group", 2, (0, 1, 3))])
        self.finds([(2, 1), (3, 1), (4, 1)], 1, 9, [("run", 1, 1, 4)])
        self.finds([(3, 1), (4, 1), (5, 1)], 2, 12, [("run", 1, 1, 5)])

    def test_a_meld_that_differs_further_on(self):
        hand = [(1, 0), (1, 1), (1, 2), (3, 3), (4, 3)]
        self.finds(hand, 1, 10, [("group", 1, (0, 1, 2)), ("run", 3, 2, 3)])
        self.finds(hand, 2, 10, [("group", 1, (0, 1, 2)), ("run", 3, 1, 4)])
        self.finds(hand + [(6, 3)], 2, 16, [("group", 1, (0, 1, 2)), ("run", 3, 2, 5)])

    def test_two_short_runs_stand_ahead_of_a_long_one(self):
        self.finds([(number, 0) for number in range(1, 7)], 0, 21, [("run", 0, 1, 3), ("run", 0, 4, 3)])

    def test_a_laying_ends_where_another_would_go_on_for_nothing(self):
        self.finds([(1, 0), (2, 0), (3, 0)], 2, 6, [("run", 0, 1, 3)])
        self.assertEqual(left(self.house, [(1, 0), (2, 0), (3, 0)], 2, [("run", 0, 1, 3)]), ([], 2))

    def test_a_laying_that_goes_on_is_worth_more_than_the_one_that_ends(self):
        for most, colours in [(6, 1), (4, 3), (3, 4)]:
            for hand in drawn_hands(5, most, colours, 20):
                for laying in all_layings(most, colours, hand, 2):
                    if laying:
                        self.assertLess(worth_by_the_words(hand, laying[:-1]), worth_by_the_words(hand, laying))


class BestAgainstTheWords(unittest.TestCase):
    def compare(self, most, colours, hand, jokers):
        told = best(House(most, colours), hand, jokers)
        self.assertEqual(told, best_by_the_words(most, colours, hand, jokers), (most, colours, hand, jokers))

    def test_every_hand_of_small_houses(self):
        for most, colours in SMALL_HOUSES:
            for hand in all_hands(most, colours):
                for jokers in [0, 1, 2]:
                    self.compare(most, colours, hand, jokers)

    def test_drawn_hands(self):
        for most, colours in DRAWN_FROM:
            for hand in drawn_hands(most, most, colours, 40, least=3):
                for jokers in [0, 1, 2]:
                    self.compare(most, colours, hand, jokers)

    def test_drawn_hands_where_layings_have_the_same_worth(self):
        seen = 0
        for most, colours in [(5, 2), (3, 3), (4, 4)]:
            for hand in drawn_hands(most + 1, most, colours, 25, least=6):
                layings = all_layings(most, colours, hand, 1)
                worths = Counter(worth_by_the_words(hand, laying) for laying in layings)
                if worths[max(worths)] > 1:
                    seen += 1
                    self.compare(most, colours, hand, 1)
        self.assertGreater(seen, 20)

    def test_full_hands_in_the_greatest_house(self):
        for hand in FULL_HANDS + list(drawn_hands(8, 13, 4, 20, least=12)):
            for jokers in [0, 1, 2]:
                self.compare(13, 4, hand, jokers)

    def test_the_best_laying_is_a_laying_of_that_worth(self):
        house = House(13, 4)
        for hand in FULL_HANDS:
            for jokers in [0, 1, 2]:
                value, laying = best(house, hand, jokers)
                self.assertEqual(worth(house, hand, jokers, laying), value)


class GoesOut(unittest.TestCase):
    def tells(self, expected, hand, jokers, house=None):
        self.assertIs(goes_out(house or House(7, 4), hand, jokers), expected, (hand, jokers))

    def test_the_empty_hand(self):
        for jokers in [0, 1, 2]:
            self.tells(True, [], jokers)

    def test_known_hands(self):
        self.tells(True, [(1, 0), (2, 0), (3, 0)], 0)
        self.tells(True, [(1, 0), (2, 0), (3, 0)], 2)
        self.tells(False, [(1, 0), (2, 0), (3, 0), (3, 0)], 0)
        self.tells(False, [(1, 0), (2, 0), (3, 0), (3, 0)], 1)
        self.tells(True, [(1, 0), (2, 0), (3, 0), (3, 0)], 2)
        self.tells(False, [(5, 1)], 0)
        self.tells(False, [(5, 1)], 1)
        self.tells(True, [(5, 1)], 2)
        self.tells(False, [(1, 0), (7, 3)], 2)
        self.tells(True, [(2, 0), (2, 2)], 1)
        self.tells(False, [(2, 0), (2, 1)], 1, House(7, 2))

    def test_tiles_that_runs_alone_or_groups_alone_leave(self):
        hand = [(1, 0), (1, 1), (1, 2), (1, 3), (2, 3), (3, 3)]
        self.tells(True, hand, 0)
        self.tells(True, sorted(hand + [(4, 3)]), 0)
        self.tells(False, sorted(hand + [(4, 2)]), 0)

    def test_twelve_tiles(self):
        self.tells(True, sorted(LONG_RUN), 0, House(13, 4))
        self.tells(True, sorted([(number, 0) for number in range(1, 7)] * 2), 0)
        self.tells(False, [(number, number % 4) for number in range(1, 13)], 2, House(13, 4))

    def test_every_hand_of_small_houses(self):
        for most, colours in SMALL_HOUSES:
            for hand in all_hands(most, colours):
                for jokers in [0, 1, 2]:
                    expected = goes_out_by_the_words(most, colours, hand, jokers)
                    self.tells(expected, hand, jokers, House(most, colours))

    def test_drawn_hands(self):
        for most, colours in DRAWN_FROM:
            for hand in drawn_hands(most, most, colours, 30):
                for jokers in [0, 1, 2]:
                    expected = goes_out_by_the_words(most, colours, hand, jokers)
                    self.tells(expected, hand, jokers, House(most, colours))


class Helpers(unittest.TestCase):
    def tells(self, expected, hand, jokers, house=None):
        told = helpers(house or House(7, 4), hand, jokers)
        self.assertEqual(told, expected, (hand, jokers))
        self.assertIs(type(told), list)

    def test_the_empty_hand(self):
        self.tells([], [], 0)
        self.tells([], [], 1)
        self.tells(house_tiles(7, 4), [], 2)
        self.tells(house_tiles(3, 1), [], 2, House(3, 1))

    def test_both_ends_of_a_run(self):
        self.tells([(2, 1), (5, 1)], [(3, 1), (4, 1)], 0)
        self.tells([(3, 1)], [(1, 1), (2, 1)], 0)
        self.tells([(5, 1)], [(6, 1), (7, 1)], 0)
        self.tells([(2, 1), (6, 1)], [(3, 1), (4, 1), (5, 1)], 0)

    def test_the_colours_of_a_group(self):
        self.tells([(3, 1), (3, 3)], [(3, 0), (3, 2)], 0)
        self.tells([(3, 1)], [(3, 0), (3, 2), (3, 3)], 0)
        self.tells([], [(3, 0), (3, 1), (3, 2), (3, 3)], 0)

    def test_helpers_rise_by_number_then_by_colour(self):
        self.tells([(1, 0), (2, 0), (3, 1), (3, 2), (3, 3), (4, 0), (5, 0)], [(1, 0), (2, 0), (3, 0), (3, 0)], 1)

    def test_a_tile_of_which_there_are_two_is_no_helper(self):
        hand = [(1, 0), (1, 0), (2, 0), (3, 0)]
        self.assertNotIn((1, 0), helpers(House(7, 4), hand, 2))
        self.assertIn((2, 0), helpers(House(7, 4), hand, 2))
        self.assertTrue(goes_out(House(7, 4), hand, 2))

    def test_a_tile_of_which_there_is_one_may_help(self):
        self.tells([(2, 0)], [(1, 0), (1, 0), (2, 0), (3, 0), (3, 0)], 0, House(3, 1))

    def test_a_hand_of_twelve_tiles_has_none(self):
        for jokers in [0, 1, 2]:
            self.tells([], LONG_RUN, jokers, House(13, 4))
            for hand in FULL_HANDS:
                self.tells([], hand, jokers, House(13, 4))

    def test_a_hand_of_eleven_tiles(self):
        within = [(number, 0) for number in range(4, 10)]
        self.tells([(3, 0)] + within + [(12, 0)], LONG_RUN[:11], 0, House(13, 4))
        self.tells([(1, 0)] + within + [(10, 0), (13, 0)], LONG_RUN[1:], 0, House(13, 4))

    def test_every_hand_of_small_houses(self):
        for most, colours in SMALL_HOUSES:
            for hand in all_hands(most, colours):
                for jokers in [0, 1, 2]:
                    self.tells(helpers_by_the_words(most, colours, hand, jokers), hand, jokers, House(most, colours))

    def test_drawn_hands(self):
        for most, colours in DRAWN_FROM:
            for hand in drawn_hands(most + 2, most, colours, 6):
                for jokers in [0, 1, 2]:
                    self.tells(helpers_by_the_words(most, colours, hand, jokers), hand, jokers, House(most, colours))

    def test_full_hands_less_a_tile(self):
        for hand in FULL_HANDS:
            for jokers in [0, 2]:
                expected = [
                    tile for tile in house_tiles(13, 4)
                    if hand[1:].count(tile) <= 1 and goes_out(House(13, 4), sorted(hand[1:] + [tile]), jokers)
                ]
                self.tells(expected, hand[1:], jokers, House(13, 4))


class GreatestWorth(unittest.TestCase):
    """The three promises of point 10, at drawn hands."""

    houses = [(13, 1), (6, 2), (4, 3), (5, 4), (13, 4)]

    def greatest(self, most, colours, hand, jokers):
        return best(House(most, colours), hand, jokers)[0]

    def test_one_more_tile_or_joker(self):
        for most, colours in self.houses:
            for hand in drawn_hands(20, most, colours, 6, greatest=11):
                for jokers in [0, 1, 2]:
                    before = self.greatest(most, colours, hand, jokers)
                    if jokers < 2:
                        self.assertGreaterEqual(self.greatest(most, colours, hand, jokers + 1), before)
                    for tile in house_tiles(most, colours):
                        if hand.count(tile) < 2:
                            more = sorted(hand + [tile])
                            self.assertGreaterEqual(self.greatest(most, colours, more, jokers), before)

    def test_colours_changed_about(self):
        for most, colours in self.houses:
            for hand in drawn_hands(21, most, colours, 8, least=6):
                for jokers in [0, 1, 2]:
                    before = self.greatest(most, colours, hand, jokers)
                    for other in itertools.permutations(range(colours)):
                        changed = sorted((number, other[colour]) for number, colour in hand)
                        self.assertEqual(self.greatest(most, colours, changed, jokers), before)

    def test_two_hands_put_together(self):
        tried = 0
        for most, colours in self.houses:
            ones = drawn_hands(22, most, colours, 40, greatest=6)
            others = drawn_hands(23, most, colours, 40, greatest=6)
            for one, other in zip(ones, others):
                both = sorted(one + other)
                if max(Counter(both).values(), default=0) > 2:
                    continue
                for mine, yours in [(0, 0), (0, 1), (1, 0), (1, 1), (2, 0), (0, 2)]:
                    tried += 1
                    parts = self.greatest(most, colours, one, mine) + self.greatest(most, colours, other, yours)
                    self.assertGreaterEqual(self.greatest(most, colours, both, mine + yours), parts)
        self.assertGreater(tried, 300)


class Refusals(unittest.TestCase):
    def test_what_is_no_hand(self):
        for most, colours in [(7, 1), (7, 4), (13, 4)]:
            for hand, jokers in bad_hands(most, colours):
                for asked in [best, goes_out, helpers]:
                    with self.subTest(asked=asked.__name__, hand=hand, jokers=jokers):
                        with self.assertRaises(BadHand) as caught:
                            asked(House(most, colours), hand, jokers)
                        self.assertIs(type(caught.exception), BadHand)


if __name__ == "__main__":
    unittest.main()
