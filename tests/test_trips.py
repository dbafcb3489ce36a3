"""[4] and the trips of [2]: which rows are trips, and what they dig and leave."""

import copy
import unittest

from dugdays.menus import Menu
from dugdays.trips import digs, is_trip, left
from helpers import (
    any_values, doc_menu, first_wrong, packings, place_menu, plain_trip, raised, rows_of_days, small_menus, told,
)


def rows(menu):
    return [row for days in range(5) for row in rows_of_days(menu, days)]


class IsTripTest(unittest.TestCase):
    def test_all_rows_of_weathers(self):
        for menu in small_menus():
            for row in rows(menu):
                self.assertIs(is_trip(menu, row), first_wrong(menu, row) is None)
                self.assertIs(is_trip(menu, tuple(row)), False)

    def test_by_hand(self):
        menu = place_menu()
        for row in ([], ["dull"], ["dull", "dull", "wet", "dry", "wet", "end", "end"]):
            self.assertIs(is_trip(menu, row), True)
        for row in (["wet"], ["dull", "dry"], ["dull", "wet", "wet"], ["dull", "wet", "end", "dull"], ["dull", "snow"]):
            self.assertIs(is_trip(menu, row), False)

    def test_any_other_value_is_none(self):
        for value in any_values():
            self.assertIs(is_trip(doc_menu(), value), value == [] and isinstance(value, list))
        for value in any_values():
            self.assertIs(is_trip(doc_menu(), ["sun", value]), False)
            self.assertIs(is_trip(doc_menu(), [value, "sun"]), False)
        for value in ("sun", {"sun": 1}, ("sun",), (), "", {}, [["sun"]], [("sun",)]):
            self.assertIs(is_trip(doc_menu(), value), False)

    def test_by_name_and_without_a_change(self):
        menu, row = doc_menu(), ["sun", "rain"]
        self.assertIs(is_trip(value=row, menu=menu), True)
        self.assertEqual((row, told(menu)), (["sun", "rain"], told(doc_menu())))


class TripTest(unittest.TestCase):
    def test_all_packings_and_trips(self):
        for menu in small_menus():
            trips = [row for row in rows(menu) if first_wrong(menu, row) is None]
            for packing in packings(menu):
                for trip in trips:
                    answer = digs(menu, packing, trip), left(menu, packing, trip)
                    self.assertEqual(answer, plain_trip(menu, packing, trip))

    def test_the_trip_of_no_days(self):
        for menu in small_menus():
            for packing in packings(menu):
                self.assertEqual((digs(menu, packing, []), left(menu, packing, [])), (0, packing))

    def test_a_long_trip(self):
        trip = ["sun", "rain"] * 5000
        packing = ["hat", "coat", "boots"]
        self.assertEqual(digs(doc_menu(), packing, trip), 24998)
        self.assertEqual(left(doc_menu(), packing, trip), ["coat", "boots", "hat"])

    def test_arguments_by_name(self):
        told_by_name = {"trip": ["sun", "rain"], "packing": ["hat", "coat", "boots"], "menu": doc_menu()}
        self.assertEqual(digs(**told_by_name), 3)
        self.assertEqual(left(**told_by_name), ["coat", "boots", "hat"])

    def test_the_list_is_new_and_the_arguments_stay(self):
        menus = small_menus() + [Menu(["a", "b"], {"x": (["b"], "place", ["x"])})]
        for menu in menus:
            trips = [row for row in rows(menu) if first_wrong(menu, row) is None]
            packing = list(menu.things)[::-1]
            for trip in trips:
                before = list(packing), list(trip), told(menu)
                digs(menu, packing, trip)
                lying = left(menu, packing, trip)
                self.assertIsNot(lying, packing)
                again = list(lying)
                lying.clear()
                self.assertEqual(left(menu, packing, trip), again)
                self.assertEqual((packing, trip, told(menu)), before)


class WrongTripTest(unittest.TestCase):
    def test_the_first_wrong_position_of_all_rows(self):
        for menu in small_menus():
            packing = list(menu.things)
            for row in rows(menu):
                wrong = first_wrong(menu, row)
                if wrong is not None:
                    self.assertEqual(raised(digs, menu, packing, row), ("BadTrip", wrong))
                    self.assertEqual(raised(left, menu, packing, row), ("BadTrip", wrong))

    def test_any_value_as_an_entry(self):
        packing = ["hat", "coat", "boots"]
        for call in (digs, left):
            for value in any_values() + ["snow", "hat", ["sun"], ("sun",), {"sun": 1}]:
                self.assertEqual(raised(call, doc_menu(), packing, [value, "sun"]), ("BadTrip", 0))
                self.assertEqual(raised(call, doc_menu(), packing, ["sun", "rain", value]), ("BadTrip", 2))
                self.assertEqual(raised(call, doc_menu(), packing, ["sun", value, value]), ("BadTrip", 1))

    def test_bad_packings_keep_the_very_value_and_come_first(self):
        for call in (digs, left):
            for value in any_values() + [["hat"], ("hat", "coat", "boots"), ["hat", "coat", ["boots"]]]:
                for trip in ([], ["sun"], ["rain"], [None], [[]]):
                    name, kept = raised(call, trip=trip, packing=value, menu=doc_menu())
                    self.assertEqual(name, "BadPacking")
                    self.assertIs(kept, value)

    def test_a_call_that_raises_changes_nothing(self):
        menu = doc_menu()
        for call in (digs, left):
            for packing, trip in ((["hat", ["coat"]], ["sun"]), (["hat", "coat", "boots"], ["sun", ["rain"], None])):
                before = copy.deepcopy((packing, trip)), told(menu)
                self.assertEqual(raised(call, menu, packing, trip), raised(call, menu, packing, trip))
                self.assertEqual(((packing, trip), told(menu)), before)


if __name__ == "__main__":
    unittest.main()
