"""Houses of tiles, and the hands that are drawn from them."""

from meldhouse.errors import BadHand, BadHouse

LEAST_NUMBERS = 3
MOST_NUMBERS = 13
LEAST_COLOURS = 1
MOST_COLOURS = 4
MOST_TILES = 12
MOST_ALIKE = 2
MOST_JOKERS = 2


class House:
    def __init__(self, most, colours):
        # The words leave out what was handed in: Python won't write every great number out as a text.
        if not LEAST_NUMBERS <= most <= MOST_NUMBERS:
            raise BadHouse("a house has 3 to 13 numbers")
        if not LEAST_COLOURS <= colours <= MOST_COLOURS:
            raise BadHouse("a house has 1 to 4 colours")
        self.most = most
        self.colours = colours


def is_tile(house, tile):
    return 1 <= tile[0] <= house.most and 0 <= tile[1] < house.colours


def all_tiles(house):
    found = []
    for number in range(1, house.most + 1):
        found.extend([(number, colour) for colour in range(house.colours)])
    return found


def is_in_order(row):
    return all([row[k - 1] <= row[k] for k in range(1, len(row))])


def is_hand(house, hand, jokers):
    if len(hand) > MOST_TILES or not 0 <= jokers <= MOST_JOKERS:
        return False
    if not all([is_tile(house, tile) and hand.count(tile) <= MOST_ALIKE for tile in hand]):
        return False
    return is_in_order(hand)


def check_hand(house, hand, jokers):
    if not is_hand(house, hand, jokers):
        raise BadHand("this is no hand of the house with 0 to 2 jokers")
