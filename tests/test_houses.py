import unittest

from meldhouse.errors import BadHouse
from meldhouse.houses import House, is_hand

FAR = 10 ** 30
# Python writes out no number with so many digits; the refusal must hold all the same.
FARTHEST = 10 ** 5000


class Houses(unittest.TestCase):
    def test_every_house_has_its_fields(self):
        for most in range(3, 14):
            for colours in range(1, 5):
                with self.subTest(most=most, colours=colours):
                    house = House(most, colours)
                    self.assertEqual((house.most, house.colours), (most, colours))

    def test_arguments_by_their_names(self):
        house = House(colours=2, most=7)
        self.assertEqual((house.most, house.colours), (7, 2))

    def test_each_house_has_fields_of_its_own(self):
        one = House(3, 1)
        other = House(13, 4)
        self.assertEqual((one.most, one.colours), (3, 1))
        self.assertEqual((other.most, other.colours), (13, 4))

    def refuses(self, most, colours):
        with self.assertRaises(BadHouse):
            House(most, colours)

    def test_counts_of_numbers_that_are_refused(self):
        for most in [-FARTHEST, -FAR, -3, -1, 0, 1, 2, 14, 15, 100, FAR, FARTHEST]:
            for colours in [1, 4]:
                with self.subTest(digits=most.bit_length(), colours=colours):
                    self.refuses(most, colours)

    def test_counts_of_colours_that_are_refused(self):
        for colours in [-FARTHEST, -FAR, -4, -1, 0, 5, 6, 100, FAR, FARTHEST]:
            for most in [3, 13]:
                with self.subTest(digits=colours.bit_length(), most=most):
                    self.refuses(most, colours)

    def test_both_counts_off_are_refused(self):
        self.refuses(2, 0)
        self.refuses(14, 5)


TWELVE = [(number, colour) for number in range(1, 7) for colour in range(2)]


class Hands(unittest.TestCase):
    def setUp(self):
        self.house = House(7, 3)

    def tells(self, expected, hand, jokers=0, house=None):
        before = list(hand)
        self.assertIs(is_hand(house or self.house, hand, jokers), expected)
        self.assertEqual(hand, before)

    def test_empty_hand(self):
        self.tells(True, [])

    def test_ordinary_hands(self):
        self.tells(True, [(4, 1)])
        self.tells(True, [(1, 0), (1, 2), (3, 1), (7, 0)], 1)
        self.tells(True, [(1, 0), (2, 0), (2, 0), (7, 2)], 2)

    def test_twelve_tiles_and_thirteen(self):
        self.tells(True, TWELVE)
        self.tells(False, TWELVE + [(7, 0)])
        self.tells(True, TWELVE[1:] + [(7, 0)])
        self.tells(False, TWELVE + [(7, 0), (7, 1), (7, 2)])

    def test_twelve_tiles_go_with_two_jokers(self):
        self.tells(True, TWELVE, 2)

    def test_twelve_tiles_in_pairs(self):
        self.tells(True, sorted(TWELVE[:6] * 2), 2)

    def test_two_alike_and_three(self):
        self.tells(True, [(2, 1), (2, 1)])
        self.tells(False, [(2, 1), (2, 1), (2, 1)])
        self.tells(False, [(2, 1), (2, 1), (2, 1), (2, 1)])

    def test_three_alike_at_either_end(self):
        self.tells(True, [(1, 0), (1, 0), (3, 2), (7, 2), (7, 2)])
        self.tells(False, [(1, 0), (1, 0), (1, 0), (3, 2), (7, 2)])
        self.tells(False, [(1, 0), (3, 2), (7, 2), (7, 2), (7, 2)])

    def test_same_number_of_other_colours_is_not_alike(self):
        self.tells(True, [(2, 0), (2, 0), (2, 1), (2, 1), (2, 2), (2, 2)])

    def test_order_by_number_then_by_colour(self):
        self.tells(True, [(1, 2), (2, 0)])
        self.tells(False, [(2, 0), (1, 2)])
        self.tells(True, [(5, 1), (5, 2)])
        self.tells(False, [(5, 2), (5, 1)])

    def test_any_two_neighbours_exchanged(self):
        for k in range(len(TWELVE) - 1):
            with self.subTest(k=k):
                hand = list(TWELVE)
                hand[k], hand[k + 1] = hand[k + 1], hand[k]
                self.tells(False, hand)

    def test_two_alike_with_one_between_are_out_of_order(self):
        self.tells(False, [(2, 0), (3, 0), (2, 0)])

    def test_numbers_of_the_house(self):
        self.tells(True, [(1, 0), (7, 0)])
        for number in [-FAR, -1, 0, 8, 9, FAR]:
            with self.subTest(number=number):
                self.tells(False, [(number, 0)])
        self.tells(False, [(0, 2), (1, 0)])
        self.tells(False, [(7, 2), (8, 0)])

    def test_colours_of_the_house(self):
        self.tells(True, [(4, 0), (4, 2)])
        for colour in [-FAR, -1, 3, 4, FAR]:
            with self.subTest(colour=colour):
                self.tells(False, [(4, colour)])
        self.tells(False, [(1, 0), (4, -1), (7, 0)])
        self.tells(False, [(1, 0), (4, 3), (7, 0)])

    def test_the_house_decides(self):
        self.tells(True, [(13, 3)], house=House(13, 4))
        self.tells(False, [(13, 3)], house=House(12, 4))
        self.tells(False, [(13, 3)], house=House(13, 3))
        self.tells(True, [(3, 0)], house=House(3, 1))
        self.tells(False, [(3, 1)], house=House(3, 1))

    def test_counts_of_jokers(self):
        for hand in [[], [(1, 0), (2, 0)], TWELVE]:
            for jokers in [0, 1, 2]:
                with self.subTest(hand=hand, jokers=jokers):
                    self.tells(True, hand, jokers)
            for jokers in [-FAR, -2, -1, 3, 4, FAR]:
                with self.subTest(hand=hand, jokers=jokers):
                    self.tells(False, hand, jokers)

    def test_a_hand_is_not_kept(self):
        hand = [(1, 0), (2, 0)]
        self.tells(True, hand)
        hand.append((1, 0))
        self.tells(False, hand)
        hand.pop()
        self.tells(True, hand)

    def test_the_house_stays_as_it_was(self):
        self.tells(True, TWELVE, 2)
        self.tells(False, [(8, 3)])
        self.assertEqual(vars(self.house), vars(House(7, 3)))


if __name__ == "__main__":
    unittest.main()
