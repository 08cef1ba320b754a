import unittest

from by_the_words import (
    all_layings, bad_hands, drawn_hands, left_by_the_words, melds_by_the_words, wanting, worth_by_the_words,
)
from meldhouse.errors import BadHand, BadLaying
from meldhouse.houses import House
from meldhouse.layings import left, worth

FAR = 10 ** 30


class LayingsCase(unittest.TestCase):
    def setUp(self):
        self.house = House(7, 4)

    def lays(self, hand, jokers, laying, value, rest, unused):
        self.assertEqual(worth(self.house, hand, jokers, laying), value)
        told = left(self.house, hand, jokers, laying)
        self.assertEqual(told, (rest, unused))
        self.assertEqual((type(told), type(told[0])), (tuple, list))

    def refuses(self, hand, jokers, laying, refusal=BadLaying):
        for asked in [worth, left]:
            with self.subTest(asked=asked.__name__, hand=hand, jokers=jokers, laying=laying):
                with self.assertRaises(refusal) as caught:
                    asked(self.house, hand, jokers, laying)
                self.assertIs(type(caught.exception), refusal)


class WithoutJokers(LayingsCase):
    def test_the_empty_laying_leaves_all(self):
        self.lays([], 0, [], 0, [], 0)
        self.lays([], 2, [], 0, [], 2)
        self.lays([(1, 0), (1, 0), (7, 3)], 1, [], 0, [(1, 0), (1, 0), (7, 3)], 1)

    def test_a_run(self):
        hand = [(2, 1), (3, 1), (4, 1), (4, 2), (5, 1)]
        self.lays(hand, 0, [("run", 1, 2, 3)], 9, [(4, 2), (5, 1)], 0)
        self.lays(hand, 0, [("run", 1, 3, 3)], 12, [(2, 1), (4, 2)], 0)
        self.lays(hand, 0, [("run", 1, 2, 4)], 14, [(4, 2)], 0)

    def test_a_group(self):
        hand = [(5, 0), (5, 1), (5, 2), (5, 3), (6, 0)]
        self.lays(hand, 0, [("group", 5, (0, 1, 3))], 15, [(5, 2), (6, 0)], 0)
        self.lays(hand, 0, [("group", 5, (0, 1, 2, 3))], 20, [(6, 0)], 0)

    def test_jokers_that_stand_for_no_tile_are_left(self):
        hand = [(2, 1), (3, 1), (4, 1)]
        for jokers in [0, 1, 2]:
            self.lays(hand, jokers, [("run", 1, 2, 3)], 9, [], jokers)

    def test_of_two_alike_one_is_laid_out_and_one_is_left(self):
        hand = [(2, 1), (2, 1), (3, 1), (4, 1), (4, 1)]
        self.lays(hand, 0, [("run", 1, 2, 3)], 9, [(2, 1), (4, 1)], 0)

    def test_the_same_meld_twice(self):
        hand = [(2, 1), (2, 1), (3, 1), (3, 1), (4, 1), (4, 1)]
        self.lays(hand, 0, [("run", 1, 2, 3), ("run", 1, 2, 3)], 18, [], 0)
        hand = [(6, 0), (6, 0), (6, 1), (6, 1), (6, 3), (6, 3)]
        self.lays(hand, 2, [("group", 6, (0, 1, 3)), ("group", 6, (0, 1, 3))], 36, [], 2)

    def test_a_tile_in_a_run_and_in_a_group(self):
        hand = [(3, 0), (4, 0), (5, 0), (5, 0), (5, 1), (5, 2)]
        self.lays(hand, 0, [("group", 5, (0, 1, 2)), ("run", 0, 3, 3)], 27, [], 0)
        self.refuses(hand[:3] + hand[4:], 0, [("group", 5, (0, 1, 2)), ("run", 0, 3, 3)])


class WithJokers(LayingsCase):
    def test_a_joker_counts_nothing(self):
        self.lays([(2, 1), (4, 1)], 1, [("run", 1, 2, 3)], 6, [], 0)
        self.lays([(2, 1), (4, 1)], 2, [("run", 1, 2, 3)], 6, [], 1)
        self.lays([(5, 2)], 2, [("group", 5, (0, 2, 3))], 5, [], 0)

    def test_a_joker_at_an_end_of_a_run(self):
        self.lays([(2, 1), (3, 1)], 1, [("run", 1, 1, 3)], 5, [], 0)
        self.lays([(2, 1), (3, 1)], 1, [("run", 1, 2, 3)], 5, [], 0)
        self.lays([(2, 1), (3, 1)], 2, [("run", 1, 1, 4)], 5, [], 0)

    def test_no_joker_stands_for_a_tile_that_the_hand_has(self):
        self.lays([(2, 1), (3, 1), (4, 1)], 2, [("run", 1, 2, 3)], 9, [], 2)

    def test_the_same_meld_twice_with_jokers(self):
        hand = [(2, 1), (2, 1), (3, 1), (4, 1), (4, 1)]
        self.lays(hand, 1, [("run", 1, 2, 3), ("run", 1, 2, 3)], 15, [], 0)
        self.refuses(hand, 0, [("run", 1, 2, 3), ("run", 1, 2, 3)])

    def test_the_melds_may_have_a_tile_three_or_four_times(self):
        hand = [(1, 0), (2, 0), (3, 0), (3, 0), (3, 1), (3, 2), (4, 0), (5, 0)]
        thrice = [("group", 3, (0, 1, 2)), ("run", 0, 1, 3), ("run", 0, 3, 3)]
        self.lays(hand, 1, thrice, 24, [], 0)
        self.refuses(hand, 0, thrice)
        hand = [(1, 0), (1, 0), (1, 1), (1, 1), (1, 2), (1, 2), (1, 3), (1, 3), (2, 0), (2, 0), (3, 0), (3, 0)]
        often = [("group", 1, (0, 1, 2, 3)), ("group", 1, (0, 1, 2, 3)), ("run", 0, 1, 3), ("run", 0, 1, 3)]
        self.lays(hand, 2, often, 18, [], 0)
        self.refuses(hand, 1, often)

    def test_jokers_of_several_melds_are_counted_together(self):
        hand = [(1, 0), (2, 0), (5, 1), (6, 1)]
        laying = [("run", 0, 1, 3), ("run", 1, 5, 3)]
        self.lays(hand, 2, laying, 14, [], 0)
        self.refuses(hand, 1, laying)
        self.refuses(hand, 0, laying)

    def test_one_joker_too_few(self):
        self.refuses([(2, 1), (4, 1)], 0, [("run", 1, 2, 3)])
        self.refuses([(2, 1)], 1, [("run", 1, 2, 3)])
        self.refuses([], 2, [("run", 1, 2, 3)])
        self.refuses([], 2, [("group", 2, (0, 1, 2))])
        self.refuses([(2, 1), (3, 1)], 1, [("run", 1, 1, 4)])


class Refusals(LayingsCase):
    hand = [(1, 0), (2, 0), (3, 0), (3, 1), (3, 2), (4, 0), (5, 0), (6, 0)]

    def test_a_meld_that_is_none(self):
        for meld in [("run", 0, 1, 2), ("run", 0, 0, 3), ("run", 0, 6, 3), ("run", 4, 1, 3), ("run", -1, 1, 3),
                     ("group", 3, (0, 1)), ("group", 3, (0, 2, 1)), ("group", 3, (0, 1, 1)), ("group", 3, (0, 1, 4)),
                     ("group", 8, (0, 1, 2)), ("group", 3, ()), ("run", 0, 1, 0), ("run", 0, 1, -3),
                     ("run", 0, 1, FAR), ("group", FAR, (0, 1, 2))]:
            self.refuses(self.hand, 2, [meld])
            self.refuses(self.hand, 2, sorted([meld, ("run", 0, 4, 3)]))

    def test_melds_out_of_order(self):
        for laying in [[("run", 0, 1, 3), ("run", 0, 4, 3)], [("group", 3, (0, 1, 2)), ("run", 0, 4, 3)]]:
            left(self.house, self.hand, 0, laying)
            self.refuses(self.hand, 0, laying[::-1])

    def test_order_at_each_part_of_a_meld(self):
        hand = sorted([(number, colour) for number in [1, 2, 3] for colour in range(4)])
        for one, other in [(("group", 1, (0, 1, 2, 3)), ("group", 2, (0, 1, 2))), (("run", 0, 1, 3), ("run", 1, 1, 3)),
                           (("group", 1, (0, 1, 2)), ("run", 3, 1, 3))]:
            left(self.house, hand, 0, [one, other])
            self.refuses(hand, 0, [other, one])
        pairs = sorted([(1, colour) for colour in range(4)] * 2)
        left(self.house, pairs, 0, [("group", 1, (0, 1, 2, 3)), ("group", 1, (0, 1, 3))])
        self.refuses(pairs, 0, [("group", 1, (0, 1, 3)), ("group", 1, (0, 1, 2, 3))])
        long = sorted([(number, 0) for number in range(1, 6)] * 2)
        left(self.house, long, 0, [("run", 0, 1, 3), ("run", 0, 1, 5)])
        self.refuses(long, 0, [("run", 0, 1, 5), ("run", 0, 1, 3)])

    def test_the_last_of_many_melds_is_looked_at(self):
        hand = sorted([(number, 0) for number in range(1, 7)] * 2)
        laying = [("run", 0, 1, 3), ("run", 0, 1, 3), ("run", 0, 4, 3), ("run", 0, 4, 3)]
        self.lays(hand, 0, laying, 42, [], 0)
        self.refuses(hand, 0, laying[:3] + [("run", 0, 1, 3)])
        self.refuses(hand, 0, laying[:3] + [("run", 0, 5, 3)])
        self.refuses(hand, 0, laying + [("run", 0, 4, 3)])

    def test_a_long_laying(self):
        self.refuses(self.hand, 2, [("run", 0, 1, 3)] * 2000)

    def test_what_is_no_hand_is_refused_first(self):
        for hand, jokers in bad_hands(7, 4):
            for laying in [[], [("run", 0, 1, 3)], [("run", 0, 1, 2)], [("run", 1, 1, 3), ("run", 0, 1, 3)]]:
                self.refuses(hand, jokers, laying, BadHand)


class AgainstTheWords(unittest.TestCase):
    def test_all_layings_of_drawn_hands(self):
        for most, colours in [(3, 1), (5, 2), (3, 3), (4, 4)]:
            house = House(most, colours)
            for hand in drawn_hands(most, most, colours, 10):
                for jokers in [0, 1, 2]:
                    for laying in all_layings(most, colours, hand, jokers):
                        self.assertEqual(worth(house, hand, jokers, laying), worth_by_the_words(hand, laying))
                        self.assertEqual(left(house, hand, jokers, laying), left_by_the_words(hand, jokers, laying))

    def test_one_meld_more_than_any_laying(self):
        for most, colours in [(5, 2), (3, 3)]:
            house = House(most, colours)
            for hand in drawn_hands(most, most, colours, 10):
                for laying in all_layings(most, colours, hand, 1):
                    for meld in melds_by_the_words(most, colours):
                        longer = sorted(laying + [meld])
                        if wanting(hand, longer) > 1:
                            with self.assertRaises(BadLaying):
                                worth(house, hand, 1, longer)


if __name__ == "__main__":
    unittest.main()
