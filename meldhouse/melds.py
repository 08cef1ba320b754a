"""Melds: runs of one colour and groups of one number."""

from meldhouse.errors import BadLaying
from meldhouse.houses import is_tile

LEAST_SIZE = 3


def is_run(house, colour, first, size):
    # A run whose two ends are tiles of the house has no tile off it between them.
    last = first + size - 1
    return size >= LEAST_SIZE and is_tile(house, (first, colour)) and is_tile(house, (last, colour))


def is_group(house, number, colours):
    # No upper bound is asked: unlike colours of a house are never more than 4.
    if len(colours) < LEAST_SIZE:
        return False
    if not all([is_tile(house, (number, colour)) for colour in colours]):
        return False
    return all([colours[k - 1] < colours[k] for k in range(1, len(colours))])


def is_meld(house, meld):
    if meld[0] == "run":
        return is_run(house, meld[1], meld[2], meld[3])
    return meld[0] == "group" and is_group(house, meld[1], meld[2])


def tiles_of(house, meld):
    if not is_meld(house, meld):
        raise BadLaying("this is no meld of the house")
    if meld[0] == "run":
        return [(meld[2] + k, meld[1]) for k in range(meld[3])]
    return [(meld[1], colour) for colour in meld[2]]


def colour_choices(house):
    choices = [()]
    for colour in range(house.colours):
        choices = choices + [choice + (colour,) for choice in choices]
    return sorted([choice for choice in choices if len(choice) >= LEAST_SIZE])


def all_groups(house):
    choices = colour_choices(house)
    found = []
    for number in range(1, house.most + 1):
        found.extend([("group", number, choice) for choice in choices])
    return found


def all_runs(house):
    found = []
    for colour in range(house.colours):
        for first in range(1, house.most + 1):
            room = house.most - first + 1
            found.extend([("run", colour, first, size) for size in range(LEAST_SIZE, room + 1)])
    return found


def melds(house):
    # The groups stand ahead because "group" is less than "run".
    return all_groups(house) + all_runs(house)
