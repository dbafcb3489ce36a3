"""Trips: rows of weathers, what they dig, and the packings that they leave."""

from dugdays.days import behind, check_packing, dug
from dugdays.errors import BadTrip


def wrong_entry(menu, row):
    """Return the first position of a row whose entry can not stand there in a trip, or None."""
    possible = [menu.weathers[0]]
    for position, entry in enumerate(row):
        if entry not in possible:
            return position
        possible = menu.later(entry)
    return None


def is_trip(menu, value):
    """Return whether any value is a list that is a trip."""
    return isinstance(value, list) and wrong_entry(menu, value) is None


def check_trip(menu, row):
    """Raise BadTrip for a row that is not a trip."""
    position = wrong_entry(menu, row)
    if position is not None:
        raise BadTrip(position)


def digs(menu, packing, trip):
    """Return the digs of all days of a trip."""
    check_packing(menu, packing)
    check_trip(menu, trip)
    lying = packing
    made = 0
    for weather in trip:
        made += dug(menu, lying, weather)
        lying = behind(menu, lying, weather)
    return made


def left(menu, packing, trip):
    """Return the packing that a trip leaves."""
    check_packing(menu, packing)
    check_trip(menu, trip)
    lying = list(packing)
    for weather in trip:
        lying = behind(menu, lying, weather)
    return lying
