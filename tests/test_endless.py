"""[5]: the long run, and a ring that has its mean."""

import unittest
from fractions import Fraction
from math import gcd

from dugdays.endless import mean_digs, mean_ring
from dugdays.menus import Menu
from helpers import (
    best_by_days, big_menus, doc_menu, first_wrong, lives, menus_of_all_shapes, no_packings, packings, place_menu,
    plain_trip, raised, small_menus, told,
)

HAT_FIRST = ["hat", "coat", "boots"]


def best_mean_of_rings(table):
    """The greatest mean of all rings that come to nothing twice, walked one by one."""
    names = list(table)
    best = Fraction(-1)

    def go_on(start, passed, made):
        nonlocal best
        digs, after = table[passed[-1]]
        made += digs[0]
        for at in after:
            if at == start:
                best = max(best, Fraction(made, len(passed)))
            # A ring is walked from the first of its states alone.
            elif at not in passed and names.index(at) > names.index(start):
                go_on(start, passed + [at], made)

    for start in names:
        go_on(start, [start], 0)
    return best


def best_mean_by_spans(first, table):
    """The greatest mean by Karp's theorem, from the most digs of 0, 1 and more days up to the number of states."""
    many = len(table)
    rows = best_by_days(first, table, many, sum, max)
    return max([
        min([Fraction(had - rows[days][at], many - days) for days in range(many) if at in rows[days]])
        for at, had in rows[many].items()
    ])


def followers(menu, trip):
    """The weathers that can follow a trip."""
    return menu.later(trip[-1]) if trip else [menu.weathers[0]]


class EndlessTest(unittest.TestCase):
    def check(self, menu, packing, mean):
        answer = mean_digs(menu, packing)
        self.assertIs(type(answer), tuple)
        digs, days = answer
        self.assertEqual((type(digs), type(days)), (int, int))
        self.assertEqual(Fraction(digs, days), mean)
        self.assertEqual((gcd(digs, days), days >= 1), (1, True))
        self.check_ring(menu, packing, mean)

    def check_ring(self, menu, packing, mean):
        answer = mean_ring(menu, packing)
        self.assertIs(type(answer), tuple)
        ahead, ring = answer
        self.assertEqual((type(ahead), type(ring)), (list, list))
        self.assertGreater(len(ring), 0)
        self.assertIn(ring[0], followers(menu, ahead))
        self.assertIn(ring[0], followers(menu, ahead + ring))
        for times in range(4):
            self.assertIsNone(first_wrong(menu, ahead + times * ring))
            made, lying = plain_trip(menu, packing, ahead + times * ring)
            start, lay = plain_trip(menu, packing, ahead)
            self.assertEqual(lying, lay)
            self.assertEqual(made - start, mean * times * len(ring))

    def test_all_rings_of_small_menus_one_by_one(self):
        for menu in small_menus()[:4] + menus_of_all_shapes(150, things=3, weathers=2):
            for packing in packings(menu):
                self.check(menu, packing, best_mean_of_rings(lives(menu, packing)[1]))

    def test_all_rings_of_three_weathers_one_by_one(self):
        menu = Menu(["a", "b", "c"], {
            "x": (["a"], "top", ["y", "z"]), "y": (["c", "b"], "top", ["z", "y"]), "z": (["b"], "place", ["x", "z"]),
        })
        for packing in packings(menu):
            self.check(menu, packing, best_mean_of_rings(lives(menu, packing)[1]))

    def test_greater_menus(self):
        for menu in small_menus() + menus_of_all_shapes(60):
            for packing in packings(menu)[:3] + packings(menu)[-2:]:
                self.check(menu, packing, best_mean_by_spans(*lives(menu, packing)))

    def test_the_greatest_menus(self):
        for menu in big_menus():
            packing = packings(menu)[77]
            self.check(menu, packing, best_mean_by_spans(*lives(menu, packing)))

    def test_many_calls_one_after_another(self):
        for menu in big_menus():
            for packing in packings(menu):
                self.check_ring(menu, packing, Fraction(*mean_digs(menu, packing)))

    def test_by_hand(self):
        self.check(doc_menu(), HAT_FIRST, Fraction(5, 2))
        # The "wet" and "dry" days by turns leave d, a, c, b in the morning of a "wet" day.
        self.check(place_menu(), ["a", "b", "c", "d"], Fraction(5, 2))
        self.assertEqual(mean_digs(doc_menu(), HAT_FIRST), (5, 2))

    def test_in_lowest_terms(self):
        menu = Menu(["a", "b"], {"x": (["a"], "top", ["y"]), "y": (["b"], "top", ["x"])})
        self.assertEqual(mean_digs(menu, ["a", "b"]), (1, 1))
        menu = Menu(["a", "b", "c"], {
            "w": (["c"], "place", ["x"]), "x": ([], "place", ["y"]), "y": ([], "top", ["z"]), "z": ([], "top", ["w"]),
        })
        self.assertEqual(mean_digs(menu, ["a", "b", "c"]), (1, 2))

    def test_nothing_is_dug_in_the_long_run(self):
        menu = Menu(["a", "b"], {"x": (["b"], "top", ["x"])})
        dull = Menu(["a", "b"], {"x": ([], "place", ["y"]), "y": ([], "top", ["x"])})
        there = Menu(["a", "b"], {"x": (["b"], "place", ["y", "x"]), "y": (["a"], "place", ["x"])})
        for asked, packing in ((menu, ["a", "b"]), (menu, ["b", "a"]), (dull, ["a", "b"])):
            self.assertEqual(mean_digs(asked, packing), (0, 1))
            self.check(asked, packing, 0)
        self.assertEqual(mean_digs(there, ["b", "a"]), (1, 2))

    def test_a_packing_that_rests(self):
        menu = Menu(["hat", "coat"], {"dry": (["hat"], "place", ["dry"])})
        self.check(menu, ["coat", "hat"], 1)
        self.check(menu, ["hat", "coat"], 0)
        self.assertEqual(mean_ring(menu, ["coat", "hat"])[1][0], "dry")

    def test_a_weather_that_leads_back_to_itself_alone(self):
        menu = Menu(["a", "b", "c"], {
            "x": (["a"], "top", ["y", "z"]), "y": (["c", "a"], "place", ["y"]), "z": (["b"], "top", ["z"]),
        })
        self.check(menu, ["a", "b", "c"], 2)
        self.check(menu, ["a", "c", "b"], 1)
        self.check(menu, ["c", "b", "a"], 1)

    def test_rings_that_can_not_be_reached_do_not_count(self):
        menu = Menu(["a", "b"], {"x": ([], "top", ["x"]), "y": (["a"], "place", ["y"])})
        self.check(menu, ["b", "a"], 0)
        menu = Menu(["a", "b"], {"x": (["a"], "top", ["y"]), "y": (["b"], "place", ["y"]), "z": (["a"], "top", ["y"])})
        self.check(menu, ["b", "a"], 1)

    def test_arguments_by_name(self):
        self.assertEqual(mean_digs(packing=HAT_FIRST, menu=doc_menu()), (5, 2))
        ahead, ring = mean_ring(packing=HAT_FIRST, menu=doc_menu())
        self.assertEqual((type(ahead), sorted(ring)), (list, ["rain", "sun"]))

    def test_the_lists_are_new_and_the_arguments_stay(self):
        for menu in small_menus():
            for packing in packings(menu)[:6]:
                before = list(packing), told(menu)
                mean, (ahead, ring) = mean_digs(menu, packing), mean_ring(menu, packing)
                again = list(ahead), list(ring)
                ahead.append("changed")
                ring.clear()
                self.assertEqual((mean_digs(menu, packing), mean_ring(menu, packing)), (mean, again))
                self.assertEqual((packing, told(menu)), before)


class WrongEndlessTest(unittest.TestCase):
    def test_bad_packings_keep_the_very_value(self):
        for call in (mean_digs, mean_ring):
            for value in no_packings():
                name, kept = raised(call, packing=value, menu=doc_menu())
                self.assertEqual(name, "BadPacking")
                self.assertIs(kept, value)


if __name__ == "__main__":
    unittest.main()
