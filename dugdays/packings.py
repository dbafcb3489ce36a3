"""Packings: which of them keep the digs of all trips of so many days lowest."""

from itertools import permutations

from dugdays.walks import best_gains, ways_from


def all_packings(menu):
    """Return the list of all packings of a menu, in the order of their sequences."""
    things = list(menu.things)
    return [list(row) for row in permutations(things)]


def most_of_each(menu, packings, days):
    """Return a list of what the trips of so many days dig at most with each of the packings."""
    ways = ways_from(menu, [[packing] for packing in packings])
    return best_gains(ways, days, 1)[-1][:len(packings)]


def least_most(menu, days):
    """Return the least number such that with some packing no trip of so many days digs more."""
    return min(most_of_each(menu, all_packings(menu), days))


def best_packings(menu, days):
    """Return the list of all packings with which no trip of so many days digs more than that least number."""
    packings = all_packings(menu)
    most = most_of_each(menu, packings, days)
    least = min(most)
    return [packing for packing, digs in zip(packings, most) if digs == least]
