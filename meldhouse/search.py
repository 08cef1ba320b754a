"""The best laying of a hand with jokers, whether the hand goes out, and the tiles that help it to."""

from meldhouse.houses import MOST_ALIKE, MOST_JOKERS, MOST_TILES, all_tiles, check_hand
from meldhouse.layings import lay_out, total
from meldhouse.melds import melds, tiles_of


def playable_melds(house, hand, jokers):
    # A meld that the whole hand can't meet is none for any part of it, so it is dropped once, ahead of the search.
    pairs = [(meld, tiles_of(house, meld)) for meld in melds(house)]
    return [pair for pair in pairs if lay_out(hand, jokers, pair[1])[1] >= 0]


def tiles_by_least(playable):
    # Where a tile is the least one left, a joker stands for each lesser tile of its meld:
    # so only melds with at most as many lesser tiles as there may be jokers are kept for it.
    by_least = {}
    for pair in playable:
        for tile in pair[1][:MOST_JOKERS + 1]:
            by_least.setdefault(tile, []).append(pair[1])
    return by_least


class Table:
    def __init__(self, playable):
        self.by_least = tiles_by_least(playable)
        self.known = {}

    def ways(self, tiles, jokers):
        after = [lay_out(tiles, jokers, wanted) for wanted in self.by_least.get(tiles[0], [])]
        return [way for way in after if way[1] >= 0]

    def least_left(self, tiles, jokers):
        if not tiles:
            return 0
        key = (tuple(tiles), jokers)
        if key not in self.known:
            self.known[key] = self.search_least(tiles, jokers)
        return self.known[key]

    def search_least(self, tiles, jokers):
        # Either the first tile stays, or one of the melds that it can stand in is laid out.
        sums = [tiles[0][0] + self.least_left(tiles[1:], jokers)]
        for rest, unused in self.ways(tiles, jokers):
            sums.append(self.least_left(rest, unused))
        return min(sums)

    def covers(self, tiles, jokers):
        if not tiles:
            return True
        for rest, unused in self.ways(tiles, jokers):
            if self.covers(rest, unused):
                return True
        return False


def first_laying(table, playable, hand, jokers):
    # The least meld of all layings that leave the least begins the first of them. No laying of what
    # then remains that leaves the least has a lesser meld, so one walk over the rising melds finds it.
    goal = table.least_left(hand, jokers)
    laying = []
    rest = hand
    unused = jokers
    for meld, wanted in playable:
        after = lay_out(rest, unused, wanted)
        while after[1] >= 0 and table.least_left(after[0], after[1]) == goal:
            laying.append(meld)
            rest = after[0]
            unused = after[1]
            after = lay_out(rest, unused, wanted)
    return laying


def best(house, hand, jokers):
    check_hand(house, hand, jokers)
    playable = playable_melds(house, hand, jokers)
    table = Table(playable)
    greatest = total(hand) - table.least_left(hand, jokers)
    return (greatest, first_laying(table, playable, hand, jokers))


def goes_out(house, hand, jokers):
    check_hand(house, hand, jokers)
    return Table(playable_melds(house, hand, jokers)).covers(hand, jokers)


def helpers(house, hand, jokers):
    check_hand(house, hand, jokers)
    if len(hand) == MOST_TILES:
        return []
    # One joker more stands for whichever tile is put in, so these are the melds for all of them.
    table = Table(playable_melds(house, hand, jokers + 1))
    room = [tile for tile in all_tiles(house) if hand.count(tile) < MOST_ALIKE]
    return [tile for tile in room if table.covers(sorted(hand + [tile]), jokers)]
