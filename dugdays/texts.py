"""Texts: a menu written as lines, and read from them."""

from dugdays.errors import BadText
from dugdays.menus import MOST_WEATHERS, WAYS_BACK, Menu, are_names, are_things, is_name, is_row_of


def menu_text(menu):
    """Return the text of a menu."""
    lines = [["things"] + list(menu.things)]
    for name in menu.weathers:
        lines.append([name, menu.back(name), ":"] + menu.wishes(name) + [">"] + menu.later(name))
    return "\n".join([" ".join(words) for words in lines])


def things_in(words):
    """Return the things in the words of the first line, or None if it is not as it must be."""
    things = words[1:]
    if words[0] != "things" or not are_things(things):
        return None
    return things


def entry_in(words, things):
    """Return what a weather's line tells, as a menu takes it, or None if it is not as it must be in itself."""
    if len(words) < 3 or not is_name(words[0]) or words[1] not in WAYS_BACK or words[2] != ":":
        return None
    rows = words[3:]
    if ">" not in rows:
        return None
    middle = rows.index(">")
    wishes, later = rows[:middle], rows[middle + 1:]
    if not is_row_of(wishes, things) or not are_names(later):
        return None
    return wishes, words[1], later


def read_lines(lines):
    """Return the things and the weathers that lines of words tell; raise BadText for the first one wrong in itself."""
    things = things_in(lines[0])
    if things is None:
        raise BadText(1)
    weathers = {}
    for number, words in enumerate(lines[1:], start=2):
        entry = entry_in(words, things)
        if entry is None or words[0] in weathers or len(weathers) == MOST_WEATHERS:
            raise BadText(number)
        weathers[words[0]] = entry
    return things, weathers


def read_menu(text):
    """Return the menu with a text."""
    if not isinstance(text, str):
        raise BadText(1)
    things, weathers = read_lines([line.split(" ") for line in text.split("\n")])
    if not weathers:
        raise BadText(2)
    for number, name in enumerate(weathers, start=2):
        if not all([weather in weathers for weather in weathers[name][2]]):
            raise BadText(number)
    return Menu(things, weathers)
