"""Suitcases: a packing that days are lived with, with calls that can be taken back."""

from dugdays.days import check_packing, live_day
from dugdays.errors import NotNow, TooFar
from dugdays.menus import is_count


class Suitcase:
    """A packing of a menu's things, how many days there have been with it, and what has been dug."""

    def __init__(self, menu, packing):
        check_packing(menu, packing)
        self._menu = menu
        # One state behind each call: the packing, the weathers that can be now, the days and the digs so far.
        self._states = [(tuple(packing), menu.weathers[:1], 0, 0)]

    @property
    def menu(self):
        """The menu."""
        return self._menu

    @property
    def packing(self):
        """The list of how the things lie now."""
        return list(self._states[-1][0])

    @property
    def days(self):
        """How many days there have been."""
        return self._states[-1][2]

    @property
    def total(self):
        """All digs so far."""
        return self._states[-1][3]

    def live(self, weather):
        """Live a day and return its digs."""
        lying, possible, days, total = self._states[-1]
        if weather not in possible:
            raise NotNow(weather)
        digs, behind = live_day(self._menu, lying, weather)
        self._states.append((behind, tuple(self._menu.later(weather)), days + 1, total + digs))
        return digs

    def swap(self, place):
        """Exchange the things at a place and the one below it."""
        lying, possible, days, total = self._states[-1]
        if not is_count(place) or place >= len(lying) - 1:
            raise NotNow(place)
        swapped = lying[:place] + (lying[place + 1], lying[place]) + lying[place + 2:]
        self._states.append((swapped, possible, days, total))

    def undo(self, number):
        """Take back the last calls of live and swap."""
        count = len(self._states) - 1
        if number > count:
            raise TooFar(count)
        for _ in range(number):
            self._states.pop()

    def fork(self):
        """Return a new equal suitcase with the same calls to take back."""
        other = Suitcase(self._menu, self.packing)
        other._states = list(self._states)
        return other

    def __eq__(self, other):
        # Two weathers can be followed by the same ones in another sequence.
        return (
            isinstance(other, Suitcase)
            and self._menu == other._menu
            and self._states[-1][0] == other._states[-1][0]
            and set(self._states[-1][1]) == set(other._states[-1][1])
        )
