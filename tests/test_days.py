"""[3]: packings, and what one day digs and leaves."""

import copy
import unittest
from itertools import product

from dugdays.days import behind, dug, is_packing
from dugdays.menus import Menu
from helpers import (
    any_values, doc_menu, no_packings, packings, place_menu, plain_day, raised, row_menus, small_menus, told,
)


class PackingTest(unittest.TestCase):
    def test_each_sequence_of_all_things_is_a_packing(self):
        for menu in small_menus():
            for packing in packings(menu):
                self.assertIs(is_packing(menu, packing), True)
                self.assertIs(is_packing(menu, tuple(packing)), False)

    def test_of_all_rows_of_names_just_the_packings_are_such(self):
        menu = doc_menu()
        names = ["hat", "coat", "boots", "sun", ""]
        rows = [list(row) for size in range(5) for row in product(names, repeat=size)]
        found = [row for row in rows if is_packing(menu, row)]
        self.assertEqual(sorted(found), sorted(packings(menu)))

    def test_any_other_value_is_none(self):
        for value in no_packings():
            self.assertIs(is_packing(doc_menu(), value), False)

    def test_by_name_and_without_a_change(self):
        menu, packing = doc_menu(), ["boots", "hat", "coat"]
        self.assertIs(is_packing(value=packing, menu=menu), True)
        self.assertEqual((packing, told(menu)), (["boots", "hat", "coat"], told(doc_menu())))


class DayTest(unittest.TestCase):
    def test_days_by_hand(self):
        menu = place_menu()
        cases = [
            (["a", "b", "c", "d"], "dull", 0, ["a", "b", "c", "d"]),
            (["a", "b", "c", "d"], "wet", 4, ["a", "b", "c", "d"]),
            (["d", "b", "a", "c"], "wet", 0, ["d", "b", "a", "c"]),
            (["a", "b", "c", "d"], "dry", 3, ["d", "a", "c", "b"]),
            (["b", "d", "a", "c"], "dry", 6, ["d", "a", "c", "b"]),
            (["a", "c", "d", "b"], "end", 3, ["b", "a", "c", "d"]),
        ]
        for packing, weather, made, lying in cases:
            self.assertEqual(dug(menu, packing, weather), made)
            self.assertEqual(behind(menu, packing, weather), lying)

    def test_all_packings_and_rows_of_wishes(self):
        for menu in small_menus() + row_menus():
            for packing in packings(menu):
                for weather in menu.weathers:
                    answer = dug(menu, packing, weather), behind(menu, packing, weather)
                    self.assertEqual(answer, plain_day(menu, packing, weather))

    def test_digs_are_a_plain_number_and_what_is_left_is_a_packing(self):
        for menu in small_menus():
            for packing in packings(menu):
                for weather in menu.weathers:
                    self.assertIs(type(dug(menu, packing, weather)), int)
                    self.assertTrue(is_packing(menu, behind(menu, packing, weather)))

    def test_arguments_by_name(self):
        told_by_name = {"weather": "rain", "packing": ["hat", "coat", "boots"], "menu": doc_menu()}
        self.assertEqual(dug(**told_by_name), 3)
        self.assertEqual(behind(**told_by_name), ["coat", "boots", "hat"])

    def test_the_list_is_new_and_the_arguments_stay(self):
        for menu in small_menus():
            for packing in packings(menu):
                for weather in menu.weathers:
                    before = list(packing), told(menu)
                    dug(menu, packing, weather)
                    lying = behind(menu, packing, weather)
                    self.assertIsNot(lying, packing)
                    again = list(lying)
                    lying.clear()
                    self.assertEqual(behind(menu, packing, weather), again)
                    self.assertEqual((packing, told(menu)), before)


class WrongDayTest(unittest.TestCase):
    def test_bad_packings_keep_the_very_value(self):
        for call in (dug, behind):
            for value in no_packings():
                name, kept = raised(call, doc_menu(), value, "sun")
                self.assertEqual(name, "BadPacking")
                self.assertIs(kept, value)

    def test_bad_weathers_keep_the_very_value(self):
        menu = Menu(["hat", "coat"], {"sun": ([], "place", ["sun"])})
        for call in (dug, behind):
            for value in any_values() + ["snow", "hat", ["sun"], ("sun",), {"sun": 1}, menu]:
                name, kept = raised(call, menu, ["coat", "hat"], value)
                self.assertEqual(name, "BadWeather")
                self.assertIs(kept, value)

    def test_a_bad_packing_comes_ahead_of_a_bad_weather(self):
        for call in (dug, behind):
            for weather in any_values():
                name, kept = raised(call, weather=weather, packing=["hat"], menu=doc_menu())
                self.assertEqual((name, kept), ("BadPacking", ["hat"]))

    def test_a_call_that_raises_changes_nothing(self):
        menu = doc_menu()
        for call in (dug, behind):
            for packing, weather in ((["hat", ["coat"], "boots"], "sun"), (["hat", "coat", "boots"], ["sun"])):
                before = copy.deepcopy((packing, weather)), told(menu)
                self.assertEqual(raised(call, menu, packing, weather), raised(call, menu, packing, weather))
                self.assertEqual(((packing, weather), told(menu)), before)


if __name__ == "__main__":
    unittest.main()
