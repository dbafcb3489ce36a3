"""The packings with which the trips of so many days dig least, if they dig most."""

import unittest
from itertools import permutations

from dugdays.days import is_packing
from dugdays.menus import Menu
from dugdays.packings import best_packings, least_most
from helpers import (
    best_by_days, big_menus, doc_menu, lives, menus_of_all_shapes, packings, plain_trip, small_menus, told, trips_of,
)


def in_sequence(menu, rows):
    """Packings by the places that their things have in the menu, compared from the top on."""
    return sorted(rows, key=lambda row: [menu.things.index(thing) for thing in row])


class PackingsTest(unittest.TestCase):
    def check(self, menu, days, most):
        """most: a function that tells the most digs with a packing."""
        found = [(most(packing), packing) for packing in packings(menu)]
        least = min([made for made, _ in found])
        best = in_sequence(menu, [packing for made, packing in found if made == least])
        self.assertEqual(least_most(menu, days), least)
        self.assertIs(type(least_most(menu, days)), int)
        self.assertEqual(best_packings(menu, days), best)

    def test_all_packings_and_trips_of_small_menus_one_by_one(self):
        for menu in small_menus()[:4] + menus_of_all_shapes(60, things=3, weathers=3):
            for days in range(6):
                trips = trips_of(menu, days)
                self.check(menu, days, lambda packing: max([plain_trip(menu, packing, trip)[0] for trip in trips]))

    def test_many_days(self):
        for menu in small_menus() + menus_of_all_shapes(12, things=4):
            rows = {tuple(packing): best_by_days(*lives(menu, packing), 31, sum, max) for packing in packings(menu)}
            for days in (8, 30, 31):
                self.check(menu, days, lambda packing: max(rows[tuple(packing)][days].values()))

    def test_no_days(self):
        for menu in small_menus() + big_menus():
            every = [list(row) for row in permutations(menu.things)]
            self.assertEqual((least_most(menu, 0), best_packings(menu, 0)), (0, every))

    def test_the_order_is_that_of_the_menu_and_not_of_the_alphabet(self):
        menu = Menu(["c", "a", "b"], {"z": ([], "top", ["y"]), "y": (["a"], "top", ["y"])})
        self.assertEqual((least_most(menu, 2), best_packings(menu, 2)), (0, [["a", "c", "b"], ["a", "b", "c"]]))
        every = [["c", "a", "b"], ["c", "b", "a"], ["a", "c", "b"], ["a", "b", "c"], ["b", "c", "a"], ["b", "a", "c"]]
        self.assertEqual((least_most(menu, 1), best_packings(menu, 1)), (0, every))

    def test_one_thing(self):
        menu = Menu(["a"], {"x": (["a"], "place", ["x"])})
        for days in (0, 1, 30):
            self.assertEqual((least_most(menu, days), best_packings(menu, days)), (0, [["a"]]))

    def test_the_greatest_menus_and_thirty_days(self):
        for menu in big_menus():
            least, best = least_most(menu, 30), best_packings(menu, 30)
            self.assertEqual(best, in_sequence(menu, best))
            for packing in best[:2] + [packing for packing in packings(menu) if packing not in best][:2]:
                made = max(best_by_days(*lives(menu, packing), 30, sum, max)[30].values())
                self.assertEqual((made == least, made >= least), (packing in best, True))
                self.assertTrue(is_packing(menu, packing))

    def test_arguments_by_name(self):
        self.assertEqual(least_most(days=2, menu=doc_menu()), 2)
        self.assertEqual(best_packings(days=2, menu=doc_menu()), [["hat", "boots", "coat"]])

    def test_the_lists_are_new_and_the_menu_stays(self):
        for menu in small_menus():
            for days in (0, 1, 3, 30):
                before = told(menu)
                least, best = least_most(menu, days), best_packings(menu, days)
                again = [list(packing) for packing in best]
                for packing in best:
                    packing.append("changed")
                best.append("changed")
                self.assertEqual((least_most(menu, days), best_packings(menu, days)), (least, again))
                self.assertEqual(told(menu), before)


if __name__ == "__main__":
    unittest.main()
