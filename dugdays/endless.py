"""Endless trips: what they dig a day in the long run, and a ring that digs just so much."""

from math import gcd

from dugdays.days import check_packing
from dugdays.walks import gaining_ring, ways_from


def digs_of(ring):
    """Return the digs of a ring's days."""
    return sum([made for number, weather, made in ring])


def best_ring(ways):
    """Return the days of a ring with the greatest mean of all."""
    # Every ring digs more than -1 a day, so the first search finds one.
    ring = gaining_ring(ways, -1, 1)
    better = ring
    while better is not None:
        ring = better
        better = gaining_ring(ways, digs_of(ring), len(ring))
    return ring


def trip_to(ways, goal):
    """Return a trip from the first morning to another one."""
    came = {}
    for number, on in enumerate(ways):
        for weather, _, after in on:
            # Mornings are numbered as they are found, so the first way to one comes from a lower number.
            if after not in came:
                came[after] = (number, weather)
    trip = []
    number = goal
    while number != 0:
        number, weather = came[number]
        trip.append(weather)
    return trip[::-1]


def mean_digs(menu, packing):
    """Return the long run of a packing, as a tuple (digs, days) without a common divisor."""
    check_packing(menu, packing)
    ring = best_ring(ways_from(menu, [[packing]]))
    digs, days = digs_of(ring), len(ring)
    shared = gcd(digs, days)
    return digs // shared, days // shared


def mean_ring(menu, packing):
    """Return a trip and a ring that can go on behind it for ever with the mean of the long run."""
    check_packing(menu, packing)
    ways = ways_from(menu, [[packing]])
    ring = best_ring(ways)
    return trip_to(ways, ring[0][0]), [weather for number, weather, made in ring]
