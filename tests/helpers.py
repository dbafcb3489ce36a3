"""What several tests need: menus, values of every kind, and a simple second reading of the rules."""

from itertools import permutations, product

from dugdays import errors
from dugdays.menus import Menu

ERRORS = {
    "BadThings": "value",
    "BadWeathers": "value",
    "BadWeather": "value",
    "BadPacking": "value",
    "BadTrip": "position",
    "BadClue": "position",
    "NotNow": "value",
    "TooFar": "count",
    "BadText": "line",
}


def doc_parts():
    """The things and weathers of the menu in DOC.md's examples, new ones at each call."""
    return (
        ["hat", "coat", "boots"],
        {"sun": (["hat"], "top", ["sun", "rain"]), "rain": (["boots", "coat"], "top", ["sun"])},
    )


def doc_menu():
    return Menu(*doc_parts())


def place_menu():
    """A menu with both words, a weather without wishes, and one that only itself can follow."""
    return Menu(
        ("a", "b", "c", "d"),
        {
            "dull": ((), "place", ("wet", "dull")),
            "wet": (("d", "b"), "place", ("dry", "end")),
            "dry": (("c", "a", "d"), "top", ("dull", "wet")),
            "end": (("b",), "top", ("end",)),
        },
    )


def small_menus():
    return [
        doc_menu(),
        place_menu(),
        Menu(["a"], {"x": ([], "top", ["x"])}),
        Menu(["a", "b"], {"x": (["b", "a"], "place", ["y"]), "y": (["a"], "top", ["x", "y"])}),
        Menu(
            ["e", "d", "c", "b", "a"],
            {"x": (["a", "e", "c"], "top", ["y", "x"]), "y": (["d", "b"], "place", ["x"])},
        ),
    ]


def row_menus():
    """One menu for each row of wishes among four things and each word."""
    things = ["a", "b", "c", "d"]
    rows = [list(row) for size in range(5) for row in permutations(things, size)]
    return [Menu(things, {"x": (row, word, ["x"])}) for row in rows for word in ("top", "place")]


def packings(menu):
    return [list(row) for row in permutations(menu.things)]


def rows_of_days(menu, days):
    return [list(row) for row in product(menu.weathers, repeat=days)]


def nested(depth):
    value = []
    for _ in range(depth):
        value = [value]
    return value


def any_values():
    """Values of every kind that are no name and no row of names, new ones at each call."""
    return [
        0, 1, -1, 10 ** 60 - 1, True, False, None,
        "", " ", "Hat", "hat2", "a b", "hat\n", "abcdefghi", "~", "top place",
        (), (None,), (1, "hat"), ("hat", ["hat"]),
        [], [None], [[]], [["hat"]], ["hat", 1], [{}], nested(30),
        {}, {"hat": 1}, {1: "hat"}, {(1, 2): [{}]}, {None: {"a": ()}},
        doc_menu(), [doc_menu()], (doc_menu(), place_menu()), {"a": doc_menu()},
        errors.BadTrip(2), [errors.BadWeather("snow")],
    ]


def told(menu):
    """All that a menu tells, as plain values."""
    names = menu.weathers
    return [menu.things, names, [(menu.wishes(name), menu.back(name), menu.later(name)) for name in names]]


def plain_day(menu, packing, weather):
    """The digs of a day and the packing behind it, read off [3] thing by thing."""
    wishes = menu.wishes(weather)
    made = 0
    for place, wish in enumerate(wishes):
        above = packing[:packing.index(wish)]
        made += len([thing for thing in above if thing not in wishes[:place]])
    if menu.back(weather) == "place":
        return made, list(packing)
    lying = [thing for thing in packing if thing not in wishes]
    for wish in wishes:
        lying = [wish] + lying
    return made, lying


def first_wrong(menu, row):
    """The first position of a row that [2] does not let stand in a trip, or None."""
    for position, weather in enumerate(row):
        if position == 0:
            fits = weather == menu.weathers[0]
        else:
            fits = weather in menu.later(row[position - 1])
        if not fits:
            return position
    return None


def raised(call, *args, **more):
    """The name of the error that a call raises and the value that it keeps."""
    try:
        call(*args, **more)
    except errors.DigError as error:
        name = error.__class__.__name__
        return name, getattr(error, ERRORS[name])
    raise AssertionError("nothing was raised")
