"""[6]: what can be kept to if worn things are put back on top in a sequence of choice, and how to put them back."""

import copy
import unittest
from itertools import product

from dugdays.choices import kept_to, put_back
from dugdays.menus import Menu
from dugdays.spans import most_digs
from helpers import (
    any_values, big_menus, doc_menu, lying_choices, menus_of_all_shapes, no_packings, packings, place_menu, plain_day,
    plain_kept, raised, small_menus, told,
)

HAT_FIRST = ["hat", "coat", "boots"]


def plans(menu, packing, possible, days):
    """For each way to choose, evening by evening, on all trips: the digs of all these trips, one by one."""
    if days == 0:
        return [[0]]
    by_weather = []
    for weather in possible:
        made = plain_day(menu, packing, weather)[0]
        by_weather.append([
            [made + more for more in plan]
            for lying in lying_choices(menu, packing, weather)
            for plan in plans(menu, lying, menu.later(weather), days - 1)
        ])
    return [sum(row, []) for row in product(*by_weather)]


def kept_rows(menu, days):
    """For 0, 1 and more days up to so many: what can be kept to in them from each (packing, weather of the first)."""
    at = [(tuple(packing), weather) for packing in packings(menu) for weather in menu.weathers]
    made = {(lying, weather): plain_day(menu, list(lying), weather)[0] for lying, weather in at}
    rows = [{key: 0 for key in at}]
    for _ in range(days):
        ahead, row, seen = rows[-1], {}, {}
        for lying, weather in at:
            choices = [tuple(choice) for choice in lying_choices(menu, lying, weather)]
            evening = weather, frozenset(choices)
            if evening not in seen:
                later = menu.later(weather)
                seen[evening] = min([max([ahead[choice, after] for after in later]) for choice in choices])
            row[lying, weather] = made[lying, weather] + seen[evening]
        rows.append(row)
    return rows


def menus_of_wishes():
    """Small menus with rows of none, one, two and three wishes, with either word."""
    menus = []
    rows = [[], ["a"], ["c"], ["b", "a"], ["a", "c"], ["c", "a", "b"], ["a", "b", "c"]]
    for at, row in enumerate(rows):
        other = rows[(at * 3 + 4) % len(rows)]
        for words in product(("top", "place"), repeat=2):
            for later in (["x", "y"], ["y"]):
                menus.append(Menu(["b", "c", "a"], {"x": (row, words[0], later), "y": (other, words[1], ["y", "x"])}))
    return menus


class KeptToTest(unittest.TestCase):
    def check(self, menu, packing, days, number):
        found = kept_to(menu, packing, days)
        self.assertEqual(found, number)
        self.assertIs(type(found), int)

    def test_all_choices_and_all_trips_one_by_one(self):
        menus = menus_of_all_shapes(60, things=2, weathers=2)
        for menu in menus:
            for packing in packings(menu):
                for days in range(4):
                    found = plans(menu, packing, menu.weathers[:1], days)
                    self.check(menu, packing, days, min([max(plan) for plan in found]))

    def test_all_choices_and_all_trips_of_three_things(self):
        for menu in menus_of_wishes():
            for packing in packings(menu):
                for days in range(3):
                    found = plans(menu, packing, menu.weathers[:1], days)
                    self.check(menu, packing, days, min([max(plan) for plan in found]))

    def test_all_choices_of_each_evening(self):
        for menu in menus_of_wishes() + small_menus()[:4] + menus_of_all_shapes(40, things=3, weathers=3):
            for packing in packings(menu):
                for days in range(4):
                    self.check(menu, packing, days, plain_kept(menu, packing, menu.weathers[:1], days))

    def test_all_days_of_menus_of_all_shapes(self):
        for menu in small_menus() + menus_of_all_shapes(25):
            rows = kept_rows(menu, 14)
            for packing in packings(menu)[::7]:
                for days in (0, 1, 2, 5, 11, 12, 13, 14):
                    self.check(menu, packing, days, rows[days][tuple(packing), menu.weathers[0]])

    def test_the_greatest_menus(self):
        for menu in big_menus():
            rows = kept_rows(menu, 12)
            for packing in packings(menu)[::24]:
                for days in (3, 12):
                    self.check(menu, packing, days, rows[days][tuple(packing), menu.weathers[0]])

    def test_no_days(self):
        for menu in small_menus() + big_menus():
            for packing in packings(menu):
                self.check(menu, packing, 0, 0)

    def test_one_day_is_the_first_weather_alone(self):
        for menu in small_menus() + menus_of_wishes():
            for packing in packings(menu):
                self.check(menu, packing, 1, plain_day(menu, packing, menu.weathers[0])[0])

    def test_by_hand_a_good_choice_digs_nothing(self):
        menu = Menu(["a", "b"], {"x": (["a", "b"], "top", ["y"]), "y": (["a"], "top", ["x"])})
        # Without a choice b is always on top when a is wished.
        self.assertEqual((most_digs(menu, ["a", "b"], 12), most_digs(menu, ["b", "a"], 12)), (6, 7))
        self.check(menu, ["a", "b"], 12, 0)
        self.check(menu, ["b", "a"], 12, 1)

    def test_by_hand_the_choice_comes_ahead_of_the_weather(self):
        menu = Menu(
            ["a", "b"],
            {"x": (["a", "b"], "top", ["y", "z"]), "y": (["a"], "place", ["x"]), "z": (["b"], "place", ["x"])},
        )
        # Whichever of the two lies on top, the next day can wish the other one.
        for days, number in ((1, 0), (2, 1), (3, 1), (4, 2), (5, 2), (12, 6)):
            self.check(menu, ["a", "b"], days, number)

    def test_the_choice_looks_further_than_the_next_day(self):
        menu = Menu(
            ["a", "b", "c"],
            {"x": (["a", "b"], "top", ["y"]), "y": ([], "top", ["z"]), "z": (["a"], "top", ["z"])},
        )
        self.check(menu, ["a", "b", "c"], 3, 0)
        self.check(menu, ["c", "b", "a"], 3, 3)

    def test_without_a_choice_it_is_the_most_of_all_trips(self):
        menus = [
            Menu(["a", "b", "c"], {"x": (["c"], "top", ["y", "x"]), "y": (["a", "b"], "place", ["x", "y"])}),
            Menu(["a", "b"], {"x": (["b", "a"], "place", ["x"])}),
            Menu(["b", "a", "c"], {"x": ([], "top", ["y"]), "y": (["a"], "top", ["y", "x"])}),
        ]
        for menu in menus + big_menus()[:1] + big_menus()[1::2]:
            for packing in packings(menu)[::5]:
                for days in (0, 1, 2, 7, 12):
                    self.check(menu, packing, days, most_digs(menu, packing, days))

    def test_somewhat_more_days_and_less_than_none(self):
        self.check(doc_menu(), HAT_FIRST, 40, kept_rows(doc_menu(), 40)[40][tuple(HAT_FIRST), "sun"])
        self.check(doc_menu(), HAT_FIRST, -1, 0)
        self.assertEqual(sorted(put_back(doc_menu(), HAT_FIRST, "rain", -1)), sorted(HAT_FIRST))

    def test_many_calls_one_after_another(self):
        menu = big_menus()[4]
        rows = kept_rows(menu, 12)
        for packing in packings(menu):
            self.check(menu, packing, 12, rows[12][tuple(packing), menu.weathers[0]])


class PutBackTest(unittest.TestCase):
    def check(self, menu, packing, weather, days, number):
        """number: a function that tells what can be kept to behind a choice."""
        chosen = put_back(menu, packing, weather, days)
        choices = lying_choices(menu, packing, weather)
        self.assertIs(type(chosen), list)
        self.assertIn(chosen, choices)
        self.assertEqual(number(chosen), min([number(choice) for choice in choices]))

    def test_no_other_choice_keeps_to_less(self):
        menus = menus_of_wishes() + small_menus()[:2] + menus_of_all_shapes(25, things=3, weathers=3)
        for menu in menus:
            for packing in packings(menu)[::2]:
                for weather in menu.weathers:
                    later = menu.later(weather)
                    for days in range(3):
                        self.check(menu, packing, weather, days, lambda lying: plain_kept(menu, lying, later, days))

    def test_twelve_days(self):
        for menu in small_menus() + big_menus()[2:5] + menus_of_all_shapes(12):
            rows = kept_rows(menu, 13)
            for packing in packings(menu)[::50]:
                for weather in menu.weathers:
                    later = menu.later(weather)
                    for days in (4, 11, 12, 13):
                        row = rows[days]
                        self.check(
                            menu, packing, weather, days, lambda lying: max([row[tuple(lying), on] for on in later]),
                        )

    def test_by_hand(self):
        menu = Menu(
            ["a", "b", "c", "d"],
            {"x": (["c", "a"], "top", ["y"]), "y": (["a"], "top", ["y", "z"]), "z": (["c", "a"], "place", ["y"])},
        )
        self.assertEqual(put_back(menu, ["a", "b", "c", "d"], "x", 1), ["a", "c", "b", "d"])
        self.assertEqual(put_back(menu, ["d", "c", "b", "a"], "x", 12), ["a", "c", "d", "b"])
        self.assertEqual(put_back(menu, ["d", "c", "b", "a"], "y", 12), ["a", "d", "c", "b"])
        self.assertEqual(put_back(menu, ["d", "c", "b", "a"], "z", 12), ["d", "c", "b", "a"])

    def test_with_place_and_without_wishes_the_same_packing(self):
        for menu in small_menus() + menus_of_wishes() + big_menus():
            for weather in menu.weathers:
                if menu.back(weather) == "place" or not menu.wishes(weather):
                    for packing in packings(menu)[::31]:
                        for days in (0, 1, 12):
                            chosen = put_back(menu, packing, weather, days)
                            self.assertEqual(chosen, packing)
                            self.assertIsNot(chosen, packing)

    def test_following_the_choices_keeps_to_the_number(self):
        for menu in [doc_menu(), place_menu(), *menus_of_all_shapes(12, things=4, weathers=3)]:
            packing = packings(menu)[-1]
            worst = self.worst_with_the_choices(menu, packing, menu.weathers[:1], 5)
            self.assertEqual(worst, kept_to(menu, packing, 5))

    def worst_with_the_choices(self, menu, packing, possible, days):
        if days == 0:
            return 0
        return max([
            plain_day(menu, packing, weather)[0] + self.worst_with_the_choices(
                menu, put_back(menu, packing, weather, days - 1), menu.later(weather), days - 1,
            )
            for weather in possible
        ])


class ArgumentsTest(unittest.TestCase):
    def test_by_name(self):
        self.assertEqual(kept_to(days=3, packing=HAT_FIRST, menu=doc_menu()), 5)
        chosen = put_back(days=1, weather="rain", packing=HAT_FIRST, menu=doc_menu())
        self.assertIn(chosen, [["coat", "boots", "hat"], ["boots", "coat", "hat"]])

    def test_the_lists_are_new_and_the_arguments_stay(self):
        for menu in small_menus():
            for packing in packings(menu)[::17]:
                for weather in menu.weathers:
                    for days in (0, 1, 2, 12):
                        before = list(packing), told(menu)
                        number, chosen = kept_to(menu, packing, days), put_back(menu, packing, weather, days)
                        again = list(chosen)
                        chosen.append("changed")
                        self.assertEqual(put_back(menu, packing, weather, days), again)
                        self.assertEqual(kept_to(menu, packing, days), number)
                        self.assertEqual((packing, told(menu)), before)


class WrongChoicesTest(unittest.TestCase):
    def test_bad_packings_keep_the_very_value_and_come_first(self):
        for value in no_packings():
            for days in (0, 1, 12):
                name, kept = raised(kept_to, days=days, packing=value, menu=doc_menu())
                self.assertEqual(name, "BadPacking")
                self.assertIs(kept, value)
                for weather in ("sun", "snow", [], None):
                    name, kept = raised(put_back, days=days, weather=weather, packing=value, menu=doc_menu())
                    self.assertEqual(name, "BadPacking")
                    self.assertIs(kept, value)

    def test_bad_weathers_keep_the_very_value(self):
        for value in any_values() + ["snow", "hat", ["sun"], ("sun",), {"sun": 1}]:
            for days in (0, 1, 12):
                name, kept = raised(put_back, doc_menu(), HAT_FIRST, value, days)
                self.assertEqual(name, "BadWeather")
                self.assertIs(kept, value)

    def test_a_call_that_raises_changes_nothing(self):
        menu = doc_menu()
        for packing, weather in ((["hat", ["coat"], "boots"], "sun"), (HAT_FIRST, ["sun"])):
            before = copy.deepcopy((packing, weather)), told(menu)
            self.assertEqual(raised(put_back, menu, packing, weather, 3), raised(put_back, menu, packing, weather, 3))
            self.assertEqual(((packing, weather), told(menu)), before)


if __name__ == "__main__":
    unittest.main()
