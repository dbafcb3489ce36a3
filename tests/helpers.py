"""What several tests need: menus, values of every kind, and a simple second reading of the rules."""

from itertools import permutations, product

from dugdays import errors
from dugdays.menus import Menu
from dugdays.suitcases import Suitcase

ERRORS = {
    "BadThings": "value",
    "BadWeathers": "value",
    "BadWeather": "value",
    "BadPacking": "value",
    "BadTrip": "position",
    "BadClue": "position",
    "NotNow": "value",
    "TooFar": "count",
    "BadText": "line",
}


def doc_parts():
    """The things and weathers of the menu in DOC.md's examples, new ones at each call."""
    return (
        ["hat", "coat", "boots"],
        {"sun": (["hat"], "top", ["sun", "rain"]), "rain": (["boots", "coat"], "top", ["sun"])},
    )


def doc_menu():
    return Menu(*doc_parts())


def place_menu():
    """A menu with both words, a weather without wishes, and one that only itself can follow."""
    return Menu(
        ("a", "b", "c", "d"),
        {
            "dull": ((), "place", ("wet", "dull")),
            "wet": (("d", "b"), "place", ("dry", "end")),
            "dry": (("c", "a", "d"), "top", ("dull", "wet")),
            "end": (("b",), "top", ("end",)),
        },
    )


def small_menus():
    return [
        doc_menu(),
        place_menu(),
        Menu(["a"], {"x": ([], "top", ["x"])}),
        Menu(["a", "b"], {"x": (["b", "a"], "place", ["y"]), "y": (["a"], "top", ["x", "y"])}),
        Menu(
            ["e", "d", "c", "b", "a"],
            {"x": (["a", "e", "c"], "top", ["y", "x"]), "y": (["d", "b"], "place", ["x"])},
        ),
    ]


def menus_of_all_shapes(count, things=5, weathers=4):
    """Menus with up to so many things and weathers, the same ones at each run."""
    seed = 0

    def below(number):
        nonlocal seed
        seed = (seed * 1103515245 + 12345) % 2 ** 31
        return (seed >> 12) % number

    def some(names, least):
        rest, row = list(names), []
        for _ in range(least + below(len(names) + 1 - least)):
            row.append(rest.pop(below(len(rest))))
        return row

    menus = []
    for _ in range(count):
        lying = some("ebdac"[:things], 1)
        names = some("wzyx"[:weathers], 1)
        menus.append(Menu(lying, {
            name: (some(lying, 0), ("top", "place", "top")[below(3)], some(names, 1)) for name in names
        }))
    return menus


def big_menus():
    """Menus with 5 things and 4 weathers, each of which can follow each."""
    things, names = ["e", "b", "d", "a", "c"], ["w", "x", "y", "z"]
    wishes = [
        [["a"], ["b"], ["c"], ["d"]],
        [["a", "b"], ["c", "e"], ["d", "a"], ["b"]],
        [["e", "d", "c", "b", "a"], ["b", "d"], ["a", "c"], []],
        [[], ["e"], ["c", "d", "b"], ["a", "e"]],
    ]
    return [
        Menu(things, {name: (row, word, names[at:] + names[:at]) for at, (name, row) in enumerate(zip(names, rows))})
        for rows in wishes for word in ("top", "place")
    ]


def row_menus():
    """One menu for each row of wishes among four things and each word."""
    things = ["a", "b", "c", "d"]
    rows = [list(row) for size in range(5) for row in permutations(things, size)]
    return [Menu(things, {"x": (row, word, ["x"])}) for row in rows for word in ("top", "place")]


def packings(menu):
    return [list(row) for row in permutations(menu.things)]


def rows_of_days(menu, days):
    return [list(row) for row in product(menu.weathers, repeat=days)]


def nested(depth):
    value = []
    for _ in range(depth):
        value = [value]
    return value


def any_values():
    """Values of every kind that are no name and no row of names, new ones at each call."""
    return [
        0, 1, -1, 10 ** 60 - 1, True, False, None,
        "", " ", "Hat", "hat2", "a b", "hat\n", "abcdefghi", "~", "top place",
        (), (None,), (1, "hat"), ("hat", ["hat"]),
        [], [None], [[]], [["hat"]], ["hat", 1], [{}], nested(30),
        {}, {"hat": 1}, {1: "hat"}, {(1, 2): [{}]}, {None: {"a": ()}},
        doc_menu(), [doc_menu()], (doc_menu(), place_menu()), {"a": doc_menu()},
        errors.BadTrip(2), [errors.BadWeather("snow")],
        Suitcase(doc_menu(), ["hat", "coat", "boots"]), [Suitcase(place_menu(), ["d", "c", "b", "a"])],
    ]


def no_packings():
    """Values that are no packing of the example's menu."""
    return any_values() + [
        ["coat"], ["hat", "coat"], ["hat", "coat", "hat"], ["hat", "coat", "boots", "hat"], ["hat", "coat", "snow"],
        ["hat", "coat", "boots", "bag"], ["hat", "coat", "Boots"], ["hat", "coat", None], ["hat", "coat", True],
        ["hat", "coat", ["boots"]], ["hat", "coat", ("boots",)], ["hat", "coat", {}], ["hat", "coat", doc_menu()],
        ["hat", "coat", 2], [["hat", "coat", "boots"]], ["hat", "hat", "hat"], ["hat"] * 100000,
        ("hat", "coat", "boots"), {"hat": 0, "coat": 1, "boots": 2}, "hat coat boots", doc_menu().things,
    ]


def told(menu):
    """All that a menu tells, as plain values."""
    names = menu.weathers
    return [menu.things, names, [(menu.wishes(name), menu.back(name), menu.later(name)) for name in names]]


def plain_day(menu, packing, weather):
    """The digs of a day and the packing behind it, read off [3] thing by thing."""
    wishes = menu.wishes(weather)
    made = 0
    for place, wish in enumerate(wishes):
        above = packing[:packing.index(wish)]
        made += len([thing for thing in above if thing not in wishes[:place]])
    if menu.back(weather) == "place":
        return made, list(packing)
    lying = [thing for thing in packing if thing not in wishes]
    for wish in wishes:
        lying = [wish] + lying
    return made, lying


def first_wrong(menu, row):
    """The first position of a row that [2] does not let stand in a trip, or None."""
    for position, weather in enumerate(row):
        if position == 0:
            fits = weather == menu.weathers[0]
        else:
            fits = weather in menu.later(row[position - 1])
        if not fits:
            return position
    return None


def plain_trip(menu, packing, trip):
    """The digs of a trip and the packing behind it, day by day."""
    made = 0
    for weather in trip:
        more, packing = plain_day(menu, packing, weather)
        made += more
    return made, list(packing)


def trips_of(menu, days):
    """All trips of so many days."""
    trips = [[]]
    for day in range(days):
        trips = [
            trip + [weather] for trip in trips for weather in (menu.later(trip[-1]) if day else [menu.weathers[0]])
        ]
    return trips


def lying_choices(menu, packing, weather):
    """All packings that [6] lets be chosen in the evening of a day."""
    if menu.back(weather) == "place":
        return [list(packing)]
    wishes = menu.wishes(weather)
    rest = [thing for thing in packing if thing not in wishes]
    return [list(row) + rest for row in permutations(wishes)]


def plain_kept(menu, packing, possible, days):
    """What [6] lets be kept to in so many days that begin with one of the weathers: each choice of each evening."""
    if days == 0:
        return 0
    worst = []
    for weather in possible:
        behind = [
            plain_kept(menu, lying, menu.later(weather), days - 1) for lying in lying_choices(menu, packing, weather)
        ]
        worst.append(plain_day(menu, packing, weather)[0] + min(behind))
    return max(worst)


def lives(menu, *rows):
    """The first (packings, weather of the day), and for each that can be: its digs, and those that can follow it."""
    first = (tuple([tuple(packing) for packing in rows]), menu.weathers[0])
    table, waiting = {}, [first]
    while waiting:
        at = waiting.pop()
        if at in table:
            continue
        lived = [plain_day(menu, list(packing), at[1]) for packing in at[0]]
        behind = tuple([tuple(lying) for _, lying in lived])
        table[at] = [made for made, _ in lived], [(behind, weather) for weather in menu.later(at[1])]
        waiting.extend(table[at][1])
    return first, table


def best_by_days(first, table, days, gain, best):
    """For 0, 1 and more days up to so many: the best gain of the trips ahead of each (packings, weather)."""
    rows = [{first: 0}]
    for _ in range(days):
        row = {}
        for at, had in rows[-1].items():
            made, after = table[at]
            for state in after:
                row[state] = best(row.get(state, had + gain(made)), had + gain(made))
        rows.append(row)
    return rows


def raised(call, *args, **more):
    """The name of the error that a call raises and the value that it keeps."""
    try:
        call(*args, **more)
    except errors.DigError as error:
        name = error.__class__.__name__
        return name, getattr(error, ERRORS[name])
    raise AssertionError("nothing was raised")
