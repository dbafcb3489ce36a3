"""Clues: which packings fit what was dug on the days of a trip, and what they tell of how things lie now."""

from dugdays.days import live_day
from dugdays.errors import BadClue
from dugdays.menus import is_count
from dugdays.packings import all_packings
from dugdays.trips import wrong_entry


def has_clue_form(value):
    """Return whether any value is a tuple of anything and an integer from 0 on."""
    return isinstance(value, tuple) and len(value) == 2 and is_count(value[1])


def check_clues(menu, clues):
    """Raise BadClue for the first entry that is not a clue, or whose weather can not stand there."""
    weathers = []
    for entry in clues:
        if not has_clue_form(entry):
            break
        weathers.append(entry[0])
    position = wrong_entry(menu, weathers)
    if position is not None:
        raise BadClue(position)
    if len(weathers) < len(clues):
        raise BadClue(len(weathers))


def pairs_that_fit(menu, clues):
    """Return a list of the packings that fit, each in a tuple with how it lies behind the days of the clues."""
    check_clues(menu, clues)
    pairs = [(packing, tuple(packing)) for packing in all_packings(menu)]
    # Days come again with the same packings, and clues can be many: so each such day is lived once.
    lived = {}
    for weather, digs in clues:
        fit = []
        for packing, lying in pairs:
            if (weather, lying) not in lived:
                lived[weather, lying] = live_day(menu, lying, weather)
            made, behind = lived[weather, lying]
            if made == digs:
                fit.append((packing, behind))
        pairs = fit
    return pairs


def fitting(menu, clues):
    """Return the list of all packings with which the days of the trip have just these digs."""
    return [packing for packing, lying in pairs_that_fit(menu, clues)]


def lies(menu, clues):
    """Return the list of the things whose place now is known, as tuples (thing, place); None if no packing fits."""
    rows = [lying for packing, lying in pairs_that_fit(menu, clues)]
    if not rows:
        return None
    first = rows[0]
    places = [(thing, first.index(thing)) for thing in menu.things]
    return [(thing, place) for thing, place in places if all([row[place] == thing for row in rows])]
