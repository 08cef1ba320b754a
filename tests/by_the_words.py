"""The document's words followed one by one and without haste; the tests hold the program's answers against these."""

import itertools
import random
from collections import Counter


def runs_by_the_words(most, colours):
    """Every run, found from its tiles: a stretch of 3 or more numbers of the house in one colour."""
    return {
        ("run", colour, first, last - first + 1)
        for colour in range(colours)
        for first, last in itertools.combinations(range(1, most + 1), 2)
        if last - first >= 2
    }


def groups_by_the_words(most, colours):
    return {
        ("group", number, chosen)
        for number in range(1, most + 1)
        for size in [3, 4]
        for chosen in itertools.combinations(range(colours), size)
    }


def melds_by_the_words(most, colours):
    return sorted(runs_by_the_words(most, colours) | groups_by_the_words(most, colours))


def tiles_by_the_words(meld):
    if meld[0] == "run":
        word, colour, first, size = meld
        return [(number, colour) for number in range(first, first + size)]
    word, number, chosen = meld
    return [(number, colour) for colour in chosen]


def house_tiles(most, colours):
    return list(itertools.product(range(1, most + 1), range(colours)))


def laid_out(hand, laying):
    """How many of each tile the hand lays out: as many as the melds have, but not more than it has itself."""
    have = Counter(hand)
    melded = Counter(tile for meld in laying for tile in tiles_by_the_words(meld))
    return have & melded


def wanting(hand, laying):
    """The jokers that a list of melds takes."""
    melded = Counter(tile for meld in laying for tile in tiles_by_the_words(meld))
    return sum((melded - Counter(hand)).values())


def worth_by_the_words(hand, laying):
    return sum(number * count for (number, colour), count in laid_out(hand, laying).items())


def left_by_the_words(hand, jokers, laying):
    rest = Counter(hand) - laid_out(hand, laying)
    return sorted(rest.elements()), jokers - wanting(hand, laying)


def all_layings(most, colours, hand, jokers):
    """Every laying, each once: every list of melds in order that the hand can meet."""

    def going_on(laying, choices):
        found = [laying]
        fitting = [meld for meld in choices if wanting(hand, laying + [meld]) <= jokers]
        for k, meld in enumerate(fitting):
            found.extend(going_on(laying + [meld], fitting[k:]))
        return found

    return going_on([], melds_by_the_words(most, colours))


def best_by_the_words(most, colours, hand, jokers):
    layings = all_layings(most, colours, hand, jokers)
    greatest = max(worth_by_the_words(hand, laying) for laying in layings)
    # Python has lists in the order of point 7: by the first meld that differs, and the one that ends ahead.
    return greatest, min(laying for laying in layings if worth_by_the_words(hand, laying) == greatest)


def goes_out_by_the_words(most, colours, hand, jokers):
    return any(laid_out(hand, laying) == Counter(hand) for laying in all_layings(most, colours, hand, jokers))


def helpers_by_the_words(most, colours, hand, jokers):
    if len(hand) == 12:
        return []
    return [
        tile for tile in house_tiles(most, colours)
        if hand.count(tile) <= 1 and goes_out_by_the_words(most, colours, sorted(hand + [tile]), jokers)
    ]


def all_hands(most, colours):
    tiles = house_tiles(most, colours)
    for counts in itertools.product([0, 1, 2], repeat=len(tiles)):
        hand = [tile for tile, count in zip(tiles, counts) for k in range(count)]
        if len(hand) <= 12:
            yield hand


def drawn_hands(seed, most, colours, count, least=0, greatest=12):
    """Drawn hands, the same ones at each run."""
    draw = random.Random(seed)
    stock = house_tiles(most, colours) * 2
    for k in range(count):
        size = min(draw.randint(least, greatest), len(stock))
        yield sorted(draw.sample(stock, size))


def bad_hands(most, colours):
    """Pairs of a hand and jokers, each of which point 3 refuses for one cause."""
    twelve = sorted(house_tiles(most, colours) * 2)[:12]
    thirteen = sorted(house_tiles(most, colours) * 2)[:13]
    off = [(0, 0), (-1, 0), (most + 1, 0), (10 ** 30, 0), (1, -1), (1, colours), (1, 10 ** 30)]
    causes = [([tile], 0) for tile in off]
    causes += [(thirteen, 0), ([(1, 0), (1, 0), (1, 0)], 0), ([(2, 0), (1, 0)], 0), ([(1, 0), (2, 0), (1, 0)], 1)]
    causes += [(hand, jokers) for hand in [[], [(1, 0)], twelve] for jokers in [-10 ** 30, -1, 3, 10 ** 30]]
    return causes
