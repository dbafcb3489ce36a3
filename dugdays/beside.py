"""Beside: how much more one packing digs than another one on the same trip."""

from dugdays.days import check_packing
from dugdays.walks import best_gains, gaining_ring, ways_from


def gap_in(menu, first, second, days):
    """Return the greatest number by which a trip of so many days digs more with the first packing."""
    check_packing(menu, first)
    check_packing(menu, second)
    return best_gains(ways_from(menu, [[first, second]]), days, 1)[-1][0]


def gap_ever(menu, first, second):
    """Return the greatest such number of the trips of any number of days, or None if there are trips with any."""
    check_packing(menu, first)
    check_packing(menu, second)
    ways = ways_from(menu, [[first, second]])
    if gaining_ring(ways, 0, 1) is not None:
        return None
    # As no ring gains, a greatest trip comes to no morning twice: so it has fewer days than there are mornings.
    return max([row[0] for row in best_gains(ways, len(ways) - 1, 1)])
