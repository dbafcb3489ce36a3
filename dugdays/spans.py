"""Spans: the most and the least that trips of so many days dig."""

from dugdays.days import check_packing
from dugdays.walks import best_gains, ways_from


def best_digs(menu, packing, days, sign):
    """Return the greatest digs, each times the sign, of the trips of so many days."""
    check_packing(menu, packing)
    return best_gains(ways_from(menu, [[packing]]), days, sign)[-1][0]


def best_trip(menu, packing, days, sign):
    """Return a trip of so many days with the greatest digs, each times the sign."""
    check_packing(menu, packing)
    ways = ways_from(menu, [[packing]])
    rows = best_gains(ways, days, sign)
    trip = []
    number = 0
    for left in range(days - 1, -1, -1):
        gains = [sign * gain + rows[left][after] for weather, gain, after in ways[number]]
        taken, _, number = ways[number][gains.index(max(gains))]
        trip.append(taken)
    return trip


def most_digs(menu, packing, days):
    """Return the greatest digs of the trips of so many days."""
    return best_digs(menu, packing, days, 1)


def few_digs(menu, packing, days):
    """Return the least digs of the trips of so many days."""
    return -best_digs(menu, packing, days, -1)


def most_trip(menu, packing, days):
    """Return a trip of so many days with the greatest digs."""
    return best_trip(menu, packing, days, 1)


def few_trip(menu, packing, days):
    """Return a trip of so many days with the least digs."""
    return best_trip(menu, packing, days, -1)
