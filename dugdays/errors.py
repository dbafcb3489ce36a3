"""The errors of the package; each keeps the very value that it is made with."""


class DigError(ValueError):
    """Any error that the package raises."""


class BadThings(DigError):
    """The value is no row of a menu's things."""

    def __init__(self, value):
        self.value = value


class BadWeathers(DigError):
    """The value is no table of a menu's weathers."""

    def __init__(self, value):
        self.value = value


class BadWeather(DigError):
    """The value is no weather of the menu."""

    def __init__(self, value):
        self.value = value


class BadPacking(DigError):
    """The value is no packing of the menu's things."""

    def __init__(self, value):
        self.value = value


class BadTrip(DigError):
    """The entry at the position can not stand there in a trip."""

    def __init__(self, position):
        self.position = position


class BadClue(DigError):
    """The entry at the position can not stand there among clues."""

    def __init__(self, position):
        self.position = position


class NotNow(DigError):
    """The value is nothing that can be done with the suitcase now."""

    def __init__(self, value):
        self.value = value


class TooFar(DigError):
    """There are only so many calls to take back as the count tells."""

    def __init__(self, count):
        self.count = count


class BadText(DigError):
    """The line, counted from 1, is not as a menu's text has it."""

    def __init__(self, line):
        self.line = line
