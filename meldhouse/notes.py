"""Hands with jokers written as texts, and read from them."""

from meldhouse.errors import BadNote
from meldhouse.houses import all_tiles, check_hand, is_hand

LETTERS = "abcd"
JOKER = "*"
NOTHING = "-"


def tile_word(tile):
    number = tile[0]
    letter = LETTERS[tile[1]]
    return f"{number}{letter}"


def shown(house, hand, jokers):
    check_hand(house, hand, jokers)
    words = [tile_word(tile) for tile in hand] + [JOKER] * jokers
    return " ".join(words) if words else NOTHING


def read(house, text):
    tiles = dict([(tile_word(tile), tile) for tile in all_tiles(house)])
    words = text.split(" ")
    hand = [tiles[word] for word in words if word in tiles]
    jokers = words.count(JOKER)
    # A hand is written in one way alone, so a text with anything else in it differs from that one.
    if not is_hand(house, hand, jokers) or shown(house, hand, jokers) != text:
        raise BadNote("this text writes no hand of the house with 0 to 2 jokers")
    return (hand, jokers)
