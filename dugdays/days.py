"""Days: what one day digs, and the packing that it leaves."""

from dugdays.errors import BadPacking


def is_packing(menu, value):
    """Return whether any value is a packing: a list of all things of the menu, each once."""
    if not isinstance(value, list) or len(value) != len(menu.things):
        return False
    return all([thing in value for thing in menu.things])


def check_packing(menu, value):
    """Raise BadPacking for any value that is not a packing."""
    if not is_packing(menu, value):
        raise BadPacking(value)


def dug(menu, packing, weather):
    """Return the digs of a day with a weather."""
    check_packing(menu, packing)
    lying = list(packing)
    made = 0
    for wish in menu.wishes(weather):
        above = lying.index(wish)
        made += above
        lying.pop(above)
    return made


def behind(menu, packing, weather):
    """Return the packing that a day with a weather leaves."""
    check_packing(menu, packing)
    if menu.back(weather) == "place":
        return list(packing)
    worn = menu.wishes(weather)
    return worn[::-1] + [thing for thing in packing if thing not in worn]
