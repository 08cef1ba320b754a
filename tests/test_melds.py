import itertools
import unittest

from by_the_words import melds_by_the_words
from meldhouse.errors import BadLaying
from meldhouse.houses import House
from meldhouse.melds import is_meld, melds, tiles_of

FAR = 10 ** 30
EVERY_HOUSE = [(most, colours) for most in range(3, 14) for colours in range(1, 5)]


def runs_in_and_around(most, colours):
    return itertools.product(["run"], range(-1, colours + 2), range(-2, most + 3), range(-2, most + 4))


def groups_in_and_around(most, colours):
    for number in range(-1, most + 3):
        for size in range(6):
            for chosen in itertools.product(range(-1, colours + 1), repeat=size):
                yield ("group", number, chosen)


class IsMeld(unittest.TestCase):
    def tells(self, expected, meld, house):
        self.assertIs(is_meld(house, meld), expected, meld)

    def test_sizes_of_runs(self):
        house = House(7, 2)
        self.tells(True, ("run", 0, 2, 3), house)
        self.tells(True, ("run", 1, 2, 4), house)
        for size in [-FAR, -3, -1, 0, 1, 2]:
            self.tells(False, ("run", 0, 2, size), house)

    def test_runs_that_end_at_the_greatest_number_and_beyond(self):
        house = House(7, 2)
        self.tells(True, ("run", 1, 1, 7), house)
        self.tells(False, ("run", 1, 1, 8), house)
        self.tells(True, ("run", 0, 5, 3), house)
        self.tells(False, ("run", 0, 5, 4), house)
        self.tells(False, ("run", 0, 6, 3), house)
        self.tells(False, ("run", 0, 7, 3), house)
        self.tells(False, ("run", 0, 8, 3), house)
        self.tells(False, ("run", 0, 1, FAR), house)
        self.tells(False, ("run", 0, FAR, 3), house)

    def test_runs_that_begin_below_one(self):
        house = House(7, 2)
        self.tells(True, ("run", 0, 1, 3), house)
        for first in [-FAR, -1, 0]:
            self.tells(False, ("run", 0, first, 3), house)
        self.tells(False, ("run", 0, -1, 5), house)
        self.tells(False, ("run", 0, -FAR, FAR + 4), house)

    def test_colours_of_runs(self):
        house = House(7, 2)
        for colour in [-FAR, -1, 2, 3, FAR]:
            self.tells(False, ("run", colour, 2, 3), house)

    def test_runs_in_the_least_and_the_greatest_house(self):
        self.tells(True, ("run", 0, 1, 3), House(3, 1))
        self.tells(False, ("run", 1, 1, 3), House(3, 1))
        self.tells(False, ("run", 0, 1, 4), House(3, 1))
        self.tells(True, ("run", 3, 1, 13), House(13, 4))
        self.tells(False, ("run", 3, 1, 14), House(13, 4))

    def test_counts_of_colours_in_groups(self):
        house = House(7, 4)
        self.tells(False, ("group", 5, ()), house)
        self.tells(False, ("group", 5, (0,)), house)
        self.tells(False, ("group", 5, (0, 1)), house)
        self.tells(True, ("group", 5, (0, 1, 2)), house)
        self.tells(True, ("group", 5, (0, 2, 3)), house)
        self.tells(True, ("group", 5, (0, 1, 2, 3)), house)
        self.tells(False, ("group", 5, (0, 1, 2, 3, 4)), house)
        self.tells(False, ("group", 5, (-1, 0, 1, 2, 3)), house)
        self.tells(False, ("group", 5, (0, 1, 2, 3, 3)), house)

    def test_colours_that_do_not_rise_or_come_twice(self):
        house = House(7, 4)
        for colours in itertools.product(range(4), repeat=3):
            rising = colours[0] < colours[1] < colours[2]
            self.tells(rising, ("group", 5, colours), house)
        for colours in itertools.product(range(4), repeat=4):
            self.tells(colours == (0, 1, 2, 3), ("group", 5, colours), house)

    def test_colours_off_the_house(self):
        for colours in [(-1, 0, 1), (1, 2, 3), (0, 1, 4), (-FAR, 0, 1), (0, 1, FAR)]:
            self.tells(False, ("group", 5, colours), House(7, 3))
        self.tells(False, ("group", 5, (0, 1, 2, 3)), House(7, 3))
        self.tells(True, ("group", 5, (1, 2, 3)), House(7, 4))

    def test_numbers_of_groups(self):
        house = House(7, 3)
        for number in range(1, 8):
            self.tells(True, ("group", number, (0, 1, 2)), house)
        for number in [-FAR, -1, 0, 8, 9, FAR]:
            self.tells(False, ("group", number, (0, 1, 2)), house)

    def test_no_groups_with_fewer_than_three_colours(self):
        for colours in [1, 2]:
            for chosen in [(0,), (0, 1), (0, 1, 2), (0, 1, 2, 3)]:
                self.tells(False, ("group", 2, chosen), House(7, colours))

    def test_other_words_make_no_meld(self):
        house = House(7, 3)
        for word in ["", "Run", "runs", "zone"]:
            self.tells(False, (word, 0, 1, 3), house)
        for word in ["", "Group", "groups", "flock", "zone"]:
            self.tells(False, (word, 5, (0, 1, 2)), house)

    def test_all_that_lies_in_a_house_and_around_it(self):
        for most, colours in [(3, 1), (3, 4), (5, 2), (4, 3)]:
            house = House(most, colours)
            expected = set(melds_by_the_words(most, colours))
            for meld in itertools.chain(runs_in_and_around(most, colours), groups_in_and_around(most, colours)):
                self.tells(meld in expected, meld, house)


class TilesOf(unittest.TestCase):
    def test_tiles_of_runs(self):
        house = House(13, 4)
        self.assertEqual(tiles_of(house, ("run", 2, 4, 3)), [(4, 2), (5, 2), (6, 2)])
        self.assertEqual(tiles_of(house, ("run", 0, 1, 4)), [(1, 0), (2, 0), (3, 0), (4, 0)])
        self.assertEqual(tiles_of(house, ("run", 3, 1, 13)), [(number, 3) for number in range(1, 14)])
        self.assertEqual(tiles_of(house, ("run", 1, 11, 3)), [(11, 1), (12, 1), (13, 1)])

    def test_tiles_of_groups(self):
        house = House(13, 4)
        self.assertEqual(tiles_of(house, ("group", 13, (0, 1, 2))), [(13, 0), (13, 1), (13, 2)])
        self.assertEqual(tiles_of(house, ("group", 1, (0, 2, 3))), [(1, 0), (1, 2), (1, 3)])
        self.assertEqual(tiles_of(house, ("group", 7, (0, 1, 2, 3))), [(7, 0), (7, 1), (7, 2), (7, 3)])

    def test_tiles_are_tuples_in_a_list(self):
        house = House(13, 4)
        for meld in melds(house):
            tiles = tiles_of(house, meld)
            self.assertIs(type(tiles), list)
            self.assertEqual({type(tile) for tile in tiles}, {tuple})

    def test_tiles_rise_and_are_of_the_house(self):
        for most, colours in EVERY_HOUSE:
            house = House(most, colours)
            for meld in melds_by_the_words(most, colours):
                tiles = tiles_of(house, meld)
                self.assertEqual(tiles, sorted(set(tiles)))
                for number, colour in tiles:
                    self.assertIn(number, range(1, most + 1))
                    self.assertIn(colour, range(colours))

    def test_what_is_no_meld_is_refused(self):
        house = House(4, 3)
        kept = set(melds_by_the_words(4, 3))
        for meld in itertools.chain(runs_in_and_around(4, 3), groups_in_and_around(4, 3)):
            if meld not in kept:
                with self.assertRaises(BadLaying, msg=meld):
                    tiles_of(house, meld)

    def test_melds_far_off_are_refused(self):
        house = House(7, 4)
        for meld in [("run", 0, 1, FAR), ("run", 0, -FAR, 3), ("run", FAR, 1, 3), ("group", FAR, (0, 1, 2)),
                     ("group", 3, (0, 1, FAR)), ("run", 0, 1, 2), ("group", 3, (0, 1)), ("group", 3, (0, 1, 2, 3, 4))]:
            with self.assertRaises(BadLaying, msg=meld):
                tiles_of(house, meld)

    def test_a_told_list_that_is_changed_changes_no_later_answer(self):
        house = House(7, 3)
        for meld in [("run", 1, 2, 3), ("group", 6, (0, 1, 2))]:
            told = tiles_of(house, meld)
            expected = list(told)
            told.clear()
            again = tiles_of(house, meld)
            self.assertEqual(again, expected)
            self.assertIsNot(again, tiles_of(house, meld))


class Melds(unittest.TestCase):
    def test_three_numbers_with_each_count_of_colours(self):
        runs = [("run", 0, 1, 3), ("run", 1, 1, 3), ("run", 2, 1, 3), ("run", 3, 1, 3)]
        self.assertEqual(melds(House(3, 1)), runs[:1])
        self.assertEqual(melds(House(3, 2)), runs[:2])
        groups = [("group", number, (0, 1, 2)) for number in [1, 2, 3]]
        self.assertEqual(melds(House(3, 3)), groups + runs[:3])
        chosen = [(0, 1, 2), (0, 1, 2, 3), (0, 1, 3), (0, 2, 3), (1, 2, 3)]
        groups = [("group", number, colours) for number in [1, 2, 3] for colours in chosen]
        self.assertEqual(melds(House(3, 4)), groups + runs)

    def test_runs_rise_by_first_then_by_size(self):
        self.assertEqual(melds(House(5, 1)), [
            ("run", 0, 1, 3), ("run", 0, 1, 4), ("run", 0, 1, 5),
            ("run", 0, 2, 3), ("run", 0, 2, 4), ("run", 0, 3, 3),
        ])

    def test_counts_with_thirteen_numbers(self):
        counts = [len(melds(House(13, colours))) for colours in [1, 2, 3, 4]]
        self.assertEqual(counts, [66, 132, 198 + 13, 264 + 65])

    def test_all_melds_and_no_other_each_once_rising(self):
        for most, colours in EVERY_HOUSE:
            with self.subTest(most=most, colours=colours):
                house = House(most, colours)
                told = melds(house)
                self.assertIs(type(told), list)
                self.assertEqual(told, melds_by_the_words(most, colours))
                self.assertTrue(all(is_meld(house, meld) for meld in told))

    def test_a_told_list_that_is_changed_changes_no_later_answer(self):
        house = House(4, 3)
        told = melds(house)
        told.reverse()
        told.pop()
        again = melds(house)
        self.assertEqual(again, melds_by_the_words(4, 3))
        self.assertEqual(melds(House(4, 3)), melds_by_the_words(4, 3))
        self.assertIsNot(again, melds(house))

    def test_the_house_stays_as_it_was(self):
        house = House(4, 3)
        for meld in melds(house):
            tiles_of(house, meld)
        self.assertEqual(vars(house), vars(House(4, 3)))


if __name__ == "__main__":
    unittest.main()
