"""[1] and [2]: what a menu takes, tells and equals."""

import copy
import unittest

from dugdays.menus import Menu
from helpers import any_values, doc_menu, doc_parts, place_menu, raised, told

GOOD_WEATHERS = {"x": ([], "top", ["x"])}


def with_entry(entry):
    """The weathers of the example, with another entry for rain."""
    weathers = doc_parts()[1]
    weathers["rain"] = entry
    return weathers


def bad_things():
    rows = [
        ["a", "b", "c", "d", "e", "f"], ("a", "b", "c", "d", "e", "f"), ["a"] * 100000,
        ["a", "a"], ("a", "b", "a"), ["a", ""], ["a", "B"], ["a", "b1"], ["a", "b\u00e4"], ["a", "abcdefghi"],
        ["a", "b "], ["a", "b\n"], ["a", "b-c"], ["a", None], ["a", True], ["a", 1], ["a", ["b"]], ["a", ("b",)],
        [["a"]], [("a", [])], [{}], ["a", {"b": 1}], [doc_menu()], ["a", doc_menu()],
        "a", "abc", {"a": 1}, {"a": ([], "top", ["a"])},
    ]
    return rows + any_values()


def bad_entries():
    """Entries for a weather of the example's menu, each wrong in one place."""
    wrong_wishes = [
        ["hat", "hat"], ("coat", "hat", "coat"), ["snow"], ["hat", "sun"], ["hat", "coat", "boots", "hat"],
        "hat", "", {"hat": 1}, [["hat"]], ["hat", None], [True], [doc_menu()], [("hat",)], ["hat"] * 100000,
    ]
    wrong_words = ["Top", "bottom", "", "top ", "topplace", ["top"], ("top", "place"), ["top", "place"]]
    wrong_later = [
        [], (), ["snow"], ["sun", "sun"], ("rain", "sun", "rain"), ["sun", "hat"], "sun", {"sun": 1},
        [["sun"]], ["sun", None], [1], [doc_menu()], [("sun",)], ["sun"] * 100000,
    ]
    values = any_values()
    rows = [value for value in values if value not in ([], ())]
    found = [(value, "top", ["sun"]) for value in wrong_wishes + rows]
    found += [(["hat"], value, ["sun"]) for value in wrong_words + values]
    found += [(["hat"], "place", value) for value in wrong_later + values]
    found += [
        [["hat"], "top", ["sun"]], (["hat"], "top"), (["hat"], "top", ["sun"], ["sun"]), (["hat"],),
        ("top", ["hat"], ["sun"]), {0: ["hat"], 1: "top", 2: ["sun"]}, "top",
    ]
    return found + values


def bad_weathers():
    """Weathers that do not go with the things of the example's menu, each wrong in one place."""
    entry = ([], "top", ["a"])
    names = ["", "Sun", "sun1", "abcdefghi", "a b", "sun\n", None, 1, True, ("sun",), ((),)]
    found = [{name: ([], "top", [name])} for name in names]
    found += [{"a": entry, name: entry} for name in names]
    found += [
        {name: entry for name in "abcde"}, [("a", entry)], (("a", entry),), ["a"], "a", [{"a": entry}],
        {"a": ([], "top", ["b"])},
    ]
    found += [with_entry(entry) for entry in bad_entries()]
    return found + any_values()


class MakingTest(unittest.TestCase):
    def test_one_and_five_things_of_one_and_eight_letters(self):
        for things in (["a"], ("abcdefgh",), ["z", "hat", "b", "abcdefgh", "c"], ("a", "b", "c", "d", "e")):
            self.assertEqual(Menu(things, GOOD_WEATHERS).things, tuple(things))

    def test_one_and_four_weathers(self):
        self.assertEqual(Menu(["a"], GOOD_WEATHERS).weathers, ("x",))
        entry = (["b"], "place", ("abcdefgh", "c", "z", "a"))
        names = ("z", "abcdefgh", "a", "c")
        menu = Menu(("b",), {name: entry for name in names})
        self.assertEqual(menu.weathers, names)
        self.assertEqual(menu.later("a"), ["abcdefgh", "c", "z", "a"])

    def test_a_thing_and_a_weather_may_have_one_name(self):
        self.assertEqual(Menu(["sun"], {"sun": (["sun"], "top", ["sun"])}).wishes("sun"), ["sun"])

    def test_what_a_menu_tells(self):
        self.assertEqual(told(place_menu()), [
            ("a", "b", "c", "d"),
            ("dull", "wet", "dry", "end"),
            [
                ([], "place", ["wet", "dull"]),
                (["d", "b"], "place", ["dry", "end"]),
                (["c", "a", "d"], "top", ["dull", "wet"]),
                (["b"], "top", ["end"]),
            ],
        ])

    def test_things_and_weathers_are_tuples(self):
        for menu in (doc_menu(), place_menu()):
            self.assertIsInstance(menu.things, tuple)
            self.assertIsInstance(menu.weathers, tuple)

    def test_lists_and_tuples_tell_the_same(self):
        things, weathers = doc_parts()
        rows = {name: (tuple(weathers[name][0]), weathers[name][1], tuple(weathers[name][2])) for name in weathers}
        self.assertEqual(told(Menu(tuple(things), rows)), told(doc_menu()))
        self.assertEqual(Menu(tuple(things), rows), doc_menu())

    def test_arguments_by_name(self):
        things, weathers = doc_parts()
        menu = Menu(weathers=weathers, things=things)
        self.assertEqual(menu, doc_menu())
        answers = [menu.wishes(weather="rain"), menu.back(weather="rain"), menu.later(weather="rain")]
        self.assertEqual(answers, [["boots", "coat"], "top", ["sun"]])

    def test_arguments_stay_as_they_were(self):
        things, weathers = doc_parts()
        Menu(things, weathers)
        self.assertEqual((things, weathers), doc_parts())
        self.assertEqual(list(weathers), ["sun", "rain"])

    def test_a_menu_copies_what_it_is_given(self):
        things, weathers = doc_parts()
        menu = Menu(things, weathers)
        before = told(menu)
        things.append("shoes")
        weathers["sun"][0].append("coat")
        weathers["sun"][2].clear()
        weathers["rain"] = ([], "place", ["rain"])
        weathers["snow"] = ([], "top", ["sun"])
        self.assertEqual(told(menu), before)
        self.assertEqual(menu, doc_menu())

    def test_what_was_told_is_new_each_time(self):
        menu = doc_menu()
        before = told(menu)
        for tell in (menu.wishes, menu.later):
            for name in menu.weathers:
                self.assertIsInstance(tell(name), list)
                tell(name).append("hat")
                tell(name).clear()
        self.assertEqual(told(menu), before)
        self.assertEqual(menu, doc_menu())


class WrongMenusTest(unittest.TestCase):
    def test_bad_things_keep_the_very_value(self):
        for value in bad_things():
            name, kept = raised(Menu, value, GOOD_WEATHERS)
            self.assertEqual(name, "BadThings")
            self.assertIs(kept, value)

    def test_bad_weathers_keep_the_very_value(self):
        for value in bad_weathers():
            name, kept = raised(Menu, doc_parts()[0], value)
            self.assertEqual(name, "BadWeathers")
            self.assertIs(kept, value)

    def test_bad_things_come_ahead_of_bad_weathers(self):
        for things in bad_things():
            for weathers in (None, {}, {"x": (things, "top", ["x"])}):
                name, kept = raised(Menu, weathers=weathers, things=things)
                self.assertEqual(name, "BadThings")
                self.assertIs(kept, things)

    def test_wrong_arguments_stay_as_they_were(self):
        for value in ([["a"], "b"], ["a", "a"], {"a": [1]}):
            before = copy.deepcopy(value)
            raised(Menu, value, GOOD_WEATHERS)
            self.assertEqual(value, before)
        value = with_entry((["hat", "hat"], "top", ["sun"]))
        before = copy.deepcopy(value)
        raised(Menu, doc_parts()[0], value)
        self.assertEqual(value, before)


class WrongWeathersTest(unittest.TestCase):
    def test_what_is_no_weather_is_kept_and_changes_nothing(self):
        menu = doc_menu()
        before = told(menu)
        for tell in (menu.wishes, menu.back, menu.later):
            for value in any_values() + ["snow", "hat", "Sun", "sun ", ["sun"], ("sun",), {"sun": 1}, menu]:
                for _ in range(2):
                    name, kept = raised(tell, value)
                    self.assertEqual(name, "BadWeather")
                    self.assertIs(kept, value)
        self.assertEqual(told(menu), before)


class EqualityTest(unittest.TestCase):
    def test_menus_made_alike_are_equal(self):
        self.assertTrue(doc_menu() == doc_menu())
        self.assertFalse(doc_menu() != doc_menu())
        self.assertTrue(place_menu() == place_menu())

    def test_menus_that_differ_in_one_thing_only_are_not_equal(self):
        sun, rain = doc_parts()[1].values()
        things = ["hat", "coat", "boots"]
        others = [
            Menu(["hat", "coat", "boots", "bag"], {"sun": sun, "rain": rain}),
            Menu(["hat", "boots", "coat"], {"sun": sun, "rain": rain}),
            Menu(things, {"rain": rain, "sun": sun}),
            Menu(things, {"sun": sun, "rain": rain, "snow": sun}),
            Menu(things, {"sun": (["coat"], "top", ["sun", "rain"]), "rain": rain}),
            Menu(things, {"sun": (["hat", "coat"], "top", ["sun", "rain"]), "rain": rain}),
            Menu(things, {"sun": ([], "top", ["sun", "rain"]), "rain": rain}),
            Menu(things, {"sun": sun, "rain": (["coat", "boots"], "top", ["sun"])}),
            Menu(things, {"sun": (["hat"], "place", ["sun", "rain"]), "rain": rain}),
            Menu(things, {"sun": (["hat"], "top", ["rain", "sun"]), "rain": rain}),
            Menu(things, {"sun": (["hat"], "top", ["sun"]), "rain": rain}),
            Menu(things, {"sun": sun, "rain": (["boots", "coat"], "top", ["rain"])}),
            Menu(things, {"sun": sun, "rain": (["boots", "coat"], "top", ["sun", "rain"])}),
        ]
        for other in others:
            for first, second in ((doc_menu(), other), (other, doc_menu())):
                self.assertIs(first == second, False)
                self.assertIs(first != second, True)

    def test_menus_with_another_name_are_not_equal(self):
        entry = (["a"], "top", ["x"])
        self.assertFalse(Menu(["a"], {"x": ([], "top", ["x"])}) == Menu(["b"], {"x": ([], "top", ["x"])}))
        self.assertFalse(Menu(["a"], {"x": entry}) == Menu(["a"], {"y": (["a"], "top", ["y"])}))

    def test_a_menu_is_equal_to_no_other_value(self):
        menu = doc_menu()
        others = any_values() + [told(menu), doc_parts(), menu.things, doc_parts()[1]]
        for value in others:
            if not isinstance(value, Menu):
                self.assertIs(menu == value, False)
                self.assertIs(value == menu, False)
                self.assertIs(menu != value, True)

    def test_comparing_changes_nothing(self):
        first, second = doc_menu(), place_menu()
        before = told(first), told(second)
        for _ in range(2):
            self.assertFalse(first == second)
        self.assertEqual((told(first), told(second)), before)


if __name__ == "__main__":
    unittest.main()
