"""Days: what one day digs, and the packing that it leaves."""

from dugdays.errors import BadPacking


def is_packing(menu, value):
    """Return whether any value is a packing: a list of all things of the menu, each once."""
    if not isinstance(value, list) or len(value) != len(menu.things):
        return False
    return all([thing in value for thing in menu.things])


def check_packing(menu, value):
    """Raise BadPacking for any value that is not a packing."""
    if not is_packing(menu, value):
        raise BadPacking(value)


def digs_for(lying, wishes):
    """Return the digs that take the wishes, one behind the other, out of a row of things."""
    lying = list(lying)
    made = 0
    for wish in wishes:
        above = lying.index(wish)
        made += above
        lying.pop(above)
    return made


def put_behind(lying, wishes, back):
    """Return the list of how a row of things lies when the wishes have come back."""
    if back == "place":
        return list(lying)
    return wishes[::-1] + [thing for thing in lying if thing not in wishes]


def live_day(menu, lying, weather):
    """Return the digs of a day with a weather and the tuple of how a row of things lies behind it."""
    wishes = menu.wishes(weather)
    return digs_for(lying, wishes), tuple(put_behind(lying, wishes, menu.back(weather)))


def dug(menu, packing, weather):
    """Return the digs of a day with a weather."""
    check_packing(menu, packing)
    return digs_for(packing, menu.wishes(weather))


def behind(menu, packing, weather):
    """Return the packing that a day with a weather leaves."""
    check_packing(menu, packing)
    return put_behind(packing, menu.wishes(weather), menu.back(weather))
