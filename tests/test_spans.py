"""[2], [3], [4] over all trips of so many days: the most and the least that they dig, and trips that dig it."""

import copy
import unittest

from dugdays.menus import Menu
from dugdays.spans import few_digs, few_trip, most_digs, most_trip
from helpers import (
    best_by_days, big_menus, doc_menu, first_wrong, lives, menus_of_all_shapes, no_packings, packings, place_menu,
    plain_trip, raised, small_menus, told, trips_of,
)

CALLS = (most_digs, few_digs, most_trip, few_trip)
HAT_FIRST = ["hat", "coat", "boots"]


class SpansTest(unittest.TestCase):
    def check_trip(self, menu, packing, days, trip, made):
        self.assertIs(type(trip), list)
        self.assertEqual((len(trip), first_wrong(menu, trip)), (days, None))
        self.assertEqual(plain_trip(menu, packing, trip)[0], made)

    def check(self, menu, packing, days, most, few):
        self.assertEqual((most_digs(menu, packing, days), few_digs(menu, packing, days)), (most, few))
        self.assertIs(type(most_digs(menu, packing, days)), int)
        self.assertIs(type(few_digs(menu, packing, days)), int)
        self.check_trip(menu, packing, days, most_trip(menu, packing, days), most)
        self.check_trip(menu, packing, days, few_trip(menu, packing, days), few)

    def test_all_trips_of_small_menus_one_by_one(self):
        for menu in small_menus()[:4] + menus_of_all_shapes(60, things=3, weathers=3):
            for days in range(6):
                trips = trips_of(menu, days)
                for packing in packings(menu):
                    made = [plain_trip(menu, packing, trip)[0] for trip in trips]
                    self.check(menu, packing, days, max(made), min(made))

    def test_by_hand(self):
        for days, most in enumerate([0, 0, 3, 5, 8, 10, 13]):
            self.check(doc_menu(), HAT_FIRST, days, most, 0)
        for days, most, few in ((1, 0, 0), (2, 4, 0), (3, 7, 0), (4, 9, 0), (5, 12, 0), (6, 14, 0)):
            self.check(place_menu(), ["a", "b", "c", "d"], days, most, few)

    def test_the_least_is_not_always_nothing(self):
        menu = Menu(["a", "b"], {"x": (["b"], "top", ["x", "y"]), "y": (["a", "b"], "top", ["x"])})
        for days, most, few in ((1, 1, 1), (2, 2, 1), (3, 2, 1), (4, 3, 1)):
            self.check(menu, ["a", "b"], days, most, few)

    def test_no_days(self):
        for menu in small_menus() + big_menus():
            for packing in packings(menu):
                self.assertEqual([call(menu, packing, 0) for call in CALLS], [0, 0, [], []])

    def test_one_day_is_the_first_weather_alone(self):
        for menu in small_menus() + big_menus():
            first = list(menu.weathers[:1])
            for packing in packings(menu):
                made = plain_trip(menu, packing, first)[0]
                self.assertEqual([call(menu, packing, 1) for call in CALLS], [made, made, first, first])

    def test_many_days(self):
        for menu in small_menus() + menus_of_all_shapes(40) + big_menus():
            packing = packings(menu)[-1]
            first, table = lives(menu, packing)
            most = best_by_days(first, table, 33, sum, max)
            few = best_by_days(first, table, 33, sum, min)
            for days in (7, 12, 29, 30, 33):
                self.check(menu, packing, days, max(most[days].values()), min(few[days].values()))

    def test_thirty_days_by_hand(self):
        # Sun and rain by turns: 15 times 3 digs for the rain, 14 times 2 for the sun that follows it.
        self.check(doc_menu(), HAT_FIRST, 30, 73, 0)
        menu = Menu(["a", "b"], {"x": (["b"], "place", ["x"])})
        self.check(menu, ["a", "b"], 30, 30, 30)

    def test_many_calls_one_after_another(self):
        menu = big_menus()[2]
        for packing in packings(menu):
            self.check(menu, packing, 30, most_digs(menu, packing, 30), few_digs(menu, packing, 30))

    def test_arguments_by_name(self):
        told_by_name = {"days": 3, "packing": HAT_FIRST, "menu": doc_menu()}
        answers = [call(**told_by_name) for call in CALLS]
        self.assertEqual(answers, [5, 0, ["sun", "rain", "sun"], ["sun", "sun", "sun"]])

    def test_the_lists_are_new_and_the_arguments_stay(self):
        for menu in small_menus():
            packing = packings(menu)[-1]
            for days in (0, 1, 2, 5, 30):
                before = list(packing), told(menu)
                answers = [call(menu, packing, days) for call in CALLS]
                again = copy.deepcopy(answers)
                for trip in answers[2:]:
                    trip.append("changed")
                self.assertEqual([call(menu, packing, days) for call in CALLS], again)
                self.assertEqual((packing, told(menu)), before)


class WrongSpansTest(unittest.TestCase):
    def test_bad_packings_keep_the_very_value(self):
        for call in CALLS:
            for value in no_packings():
                for days in (0, 1, 30):
                    name, kept = raised(call, days=days, packing=value, menu=doc_menu())
                    self.assertEqual(name, "BadPacking")
                    self.assertIs(kept, value)

    def test_a_call_that_raises_changes_nothing(self):
        menu = doc_menu()
        for call in CALLS:
            packing = ["hat", ["coat"], "boots"]
            before = copy.deepcopy(packing), told(menu)
            self.assertEqual(raised(call, menu, packing, 3), raised(call, menu, packing, 3))
            self.assertEqual((packing, told(menu)), before)


if __name__ == "__main__":
    unittest.main()
