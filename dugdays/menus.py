"""Menus: the things of a suitcase, and the weathers that wish for them."""

from dugdays.errors import BadThings, BadWeather, BadWeathers

LETTERS = "abcdefghijklmnopqrstuvwxyz"
MOST_LETTERS = 8
MOST_THINGS = 5
MOST_WEATHERS = 4
WAYS_BACK = ("top", "place")


def is_name(value):
    """Return whether any value is a name."""
    if not isinstance(value, str) or not 1 <= len(value) <= MOST_LETTERS:
        return False
    return all([letter in LETTERS for letter in value])


def is_count(value):
    """Return whether any value is an integer from 0 on."""
    return isinstance(value, int) and not isinstance(value, bool) and value >= 0


def are_different(names):
    """Return whether no name of a row stands there twice."""
    return len(set(names)) == len(names)


def are_names(row):
    """Return whether the entries of a row, any values, are one or more different names."""
    # Names are strings, so only behind this check can the entries be members of a set.
    return len(row) > 0 and all([is_name(entry) for entry in row]) and are_different(row)


def are_things(value):
    """Return whether any value can be the things of a menu."""
    return isinstance(value, (list, tuple)) and len(value) <= MOST_THINGS and are_names(value)


def is_row_of(value, names):
    """Return whether any value is a row of different ones of the names."""
    if not isinstance(value, (list, tuple)) or len(value) > len(names):
        return False
    return all([entry in names for entry in value]) and are_different(value)


def is_weather_entry(value, things, weathers):
    """Return whether any value is what a menu with these things and weathers tells of one of them."""
    if not isinstance(value, tuple) or len(value) != 3:
        return False
    wishes, back, later = value
    if not is_row_of(wishes, things) or not is_row_of(later, weathers):
        return False
    return back in WAYS_BACK and len(later) > 0


def are_weathers(value, things):
    """Return whether any value can be the weathers of a menu with these things."""
    if not isinstance(value, dict) or not 1 <= len(value) <= MOST_WEATHERS:
        return False
    names = list(value)
    return all([is_name(name) and is_weather_entry(value[name], things, names) for name in names])


class Menu:
    """The things of a suitcase, and what each weather wishes, how it puts back, and what can follow it."""

    def __init__(self, things, weathers):
        if not are_things(things):
            raise BadThings(things)
        if not are_weathers(weathers, things):
            raise BadWeathers(weathers)
        self._things = tuple(things)
        self._weathers = tuple(weathers)
        self._wishes = {name: tuple(weathers[name][0]) for name in weathers}
        self._back = {name: weathers[name][1] for name in weathers}
        self._later = {name: tuple(weathers[name][2]) for name in weathers}

    @property
    def things(self):
        """The things, in their sequence."""
        return self._things

    @property
    def weathers(self):
        """The names of the weathers, in their sequence."""
        return self._weathers

    def wishes(self, weather):
        """Return the list of what a weather wishes."""
        self._check_weather(weather)
        return list(self._wishes[weather])

    def back(self, weather):
        """Return a weather's way of putting back."""
        self._check_weather(weather)
        return self._back[weather]

    def later(self, weather):
        """Return the list of the weathers that can follow a weather."""
        self._check_weather(weather)
        return list(self._later[weather])

    def __eq__(self, other):
        # Dicts are equal in any sequence, so the weathers' names are compared, too.
        return (
            isinstance(other, Menu)
            and self._things == other._things
            and self._weathers == other._weathers
            and self._wishes == other._wishes
            and self._back == other._back
            and self._later == other._later
        )

    def _check_weather(self, value):
        # A tuple is searched because any value can be compared, but not any can be a dict's key.
        if value not in self._weathers:
            raise BadWeather(value)
