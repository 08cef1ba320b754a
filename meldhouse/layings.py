"""Layings of a hand with jokers: what they are worth, and what they leave."""

from meldhouse.errors import BadLaying
from meldhouse.houses import check_hand, is_in_order
from meldhouse.melds import tiles_of


def total(tiles):
    return sum([tile[0] for tile in tiles])


def lay_out(tiles, jokers, wanted):
    # The second of the two answers lies below 0 if there are too few jokers for what is wanting.
    rest = list(tiles)
    for tile in wanted:
        if tile in rest:
            rest.remove(tile)
    from_hand = len(tiles) - len(rest)
    return (rest, jokers - (len(wanted) - from_hand))


def tiles_of_laying(house, laying):
    wanted = []
    for meld in laying:
        wanted.extend(tiles_of(house, meld))
    if not is_in_order(laying):
        raise BadLaying("the melds of a laying stand in order")
    return wanted


def left(house, hand, jokers, laying):
    check_hand(house, hand, jokers)
    after = lay_out(hand, jokers, tiles_of_laying(house, laying))
    if after[1] < 0:
        raise BadLaying("the hand has too few tiles and jokers for this laying")
    return after


def worth(house, hand, jokers, laying):
    return total(hand) - total(left(house, hand, jokers, laying)[0])
