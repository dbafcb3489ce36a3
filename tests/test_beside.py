"""What one packing digs more than another one on the same trip, in so many days and ever."""

import unittest
from itertools import product

from dugdays.beside import gap_ever, gap_in
from dugdays.menus import Menu
from helpers import (
    best_by_days, big_menus, doc_menu, lives, menus_of_all_shapes, no_packings, packings, place_menu, plain_trip,
    raised, small_menus, told, trips_of,
)

HAT_FIRST = ["hat", "coat", "boots"]
HAT_LAST = ["coat", "boots", "hat"]


def pairs(menu):
    return list(product(packings(menu), repeat=2))


def difference(made):
    return made[0] - made[1]


def plain_gap(menu, first, second, trip):
    return plain_trip(menu, first, trip)[0] - plain_trip(menu, second, trip)[0]


def plain_gap_ever(first, table):
    """The greatest gap of all trips, or None: without a bound just if the best still grow when all states have come."""
    best = {first: 0}
    for _ in range(len(table) + 1):
        before = dict(best)
        for at, had in before.items():
            made, after = table[at]
            for state in after:
                best[state] = max(best.get(state, had + difference(made)), had + difference(made))
        if best == before:
            return max(best.values())
    return None


class GapInTest(unittest.TestCase):
    def test_all_trips_of_small_menus_one_by_one(self):
        for menu in small_menus()[:1] + small_menus()[2:4] + menus_of_all_shapes(40, things=3, weathers=3):
            for days in range(5):
                trips = trips_of(menu, days)
                for first, second in pairs(menu):
                    gaps = [plain_gap(menu, first, second, trip) for trip in trips]
                    self.assertEqual(gap_in(menu, first, second, days), max(gaps))

    def test_many_days(self):
        for menu in small_menus() + menus_of_all_shapes(40) + big_menus():
            first, second = packings(menu)[len(packings(menu)) // 2], packings(menu)[-1]
            for one, other in ((first, second), (second, first)):
                rows = best_by_days(*lives(menu, one, other), 32, difference, max)
                for days in (6, 29, 30, 32):
                    self.assertEqual(gap_in(menu, one, other, days), max(rows[days].values()))

    def test_no_days(self):
        for menu in small_menus():
            for first, second in pairs(menu)[:50]:
                self.assertEqual(gap_in(menu, first, second, 0), 0)

    def test_by_hand(self):
        menu = doc_menu()
        self.assertEqual([gap_in(menu, HAT_LAST, HAT_FIRST, days) for days in range(4)], [0, 2, 2, 2])
        self.assertEqual([gap_in(menu, HAT_FIRST, HAT_LAST, days) for days in range(4)], [0, -2, -2, -2])
        self.assertIs(type(gap_in(menu, HAT_LAST, HAT_FIRST, 2)), int)

    def test_always_less(self):
        menu = Menu(["a", "b"], {"x": (["b"], "place", ["x"])})
        self.assertEqual([gap_in(menu, ["b", "a"], ["a", "b"], days) for days in (0, 1, 2, 30)], [0, -1, -2, -30])
        self.assertEqual([gap_in(menu, ["a", "b"], ["b", "a"], days) for days in (0, 1, 2, 30)], [0, 1, 2, 30])

    def test_a_packing_beside_itself(self):
        for menu in small_menus() + big_menus():
            for packing in packings(menu)[:7]:
                self.assertEqual([gap_in(menu, packing, packing, days) for days in (0, 1, 5, 30)], [0, 0, 0, 0])

    def test_arguments_by_name(self):
        self.assertEqual(gap_in(days=1, second=HAT_FIRST, first=HAT_LAST, menu=doc_menu()), 2)


class GapEverTest(unittest.TestCase):
    def check(self, menu, first, second):
        start, table = lives(menu, first, second)
        wanted = plain_gap_ever(start, table)
        self.assertEqual(gap_ever(menu, first, second), wanted)
        return wanted

    def test_all_pairs_of_small_menus(self):
        for menu in small_menus()[:1] + small_menus()[2:4] + menus_of_all_shapes(60, things=3, weathers=3):
            for first, second in pairs(menu):
                wanted = self.check(menu, first, second)
                if wanted is not None:
                    gaps = [gap_in(menu, first, second, days) for days in range(20)]
                    self.assertEqual(max(gaps), wanted)

    def test_greater_menus(self):
        found = []
        for menu in small_menus() + menus_of_all_shapes(60) + big_menus():
            every = packings(menu)
            for first, second in zip(every[:6], every[::-1]):
                found.append(self.check(menu, first, second))
                found.append(self.check(menu, second, first))
        self.assertIn(None, found)
        self.assertIn(0, found)
        self.assertGreater(max([gap for gap in found if gap is not None]), 3)

    def test_by_hand(self):
        menu = doc_menu()
        self.assertEqual((gap_ever(menu, HAT_LAST, HAT_FIRST), gap_ever(menu, HAT_FIRST, HAT_LAST)), (2, 0))
        self.assertIs(type(gap_ever(menu, HAT_LAST, HAT_FIRST)), int)

    def test_a_packing_beside_itself(self):
        for menu in small_menus() + big_menus():
            for packing in packings(menu)[:7]:
                self.assertEqual(gap_ever(menu, packing, packing), 0)

    def test_the_greatest_comes_behind_days_that_lose(self):
        # The first day digs one less with the first packing, the second one two more.
        menu = Menu(["a", "b", "c"], {
            "x": (["a"], "place", ["y"]), "y": (["b"], "place", ["z"]), "z": ([], "top", ["z"]),
        })
        first, second = ["a", "c", "b"], ["b", "a", "c"]
        self.assertEqual([gap_in(menu, first, second, days) for days in range(5)], [0, -1, 1, 1, 1])
        self.assertEqual(self.check(menu, first, second), 1)
        self.assertEqual([gap_in(menu, second, first, days) for days in range(5)], [0, 1, -1, -1, -1])
        self.assertEqual(self.check(menu, second, first), 1)

    def test_trips_with_any_number(self):
        menu = Menu(["a", "b"], {"x": (["b"], "place", ["x"])})
        self.assertIsNone(gap_ever(menu, ["a", "b"], ["b", "a"]))
        self.assertEqual(gap_ever(menu, ["b", "a"], ["a", "b"]), 0)

    def test_a_loss_ahead_of_any_number(self):
        menu = Menu(["a", "b"], {"x": (["a"], "place", ["x", "y"]), "y": (["b"], "place", ["y"])})
        self.assertEqual([gap_in(menu, ["a", "b"], ["b", "a"], days) for days in (1, 2, 3, 9)], [-1, 0, 1, 7])
        self.assertIsNone(self.check(menu, ["a", "b"], ["b", "a"]))

    def test_gains_that_can_not_be_reached_or_end_do_not_count(self):
        menu = Menu(["a", "b"], {"x": (["b"], "top", ["x"]), "y": (["b"], "place", ["y"])})
        self.assertEqual(self.check(menu, ["a", "b"], ["b", "a"]), 1)
        menu = Menu(["a", "b"], {"x": (["b"], "place", ["y"]), "y": (["b"], "place", ["z"]), "z": ([], "top", ["z"])})
        self.assertEqual(self.check(menu, ["a", "b"], ["b", "a"]), 2)

    def test_a_ring_that_gains_as_much_as_it_loses(self):
        menu = Menu(["a", "b"], {"x": (["a"], "place", ["y"]), "y": (["b"], "place", ["x"])})
        self.assertEqual(self.check(menu, ["a", "b"], ["b", "a"]), 0)
        self.assertEqual(self.check(menu, ["b", "a"], ["a", "b"]), 1)

    def test_many_calls_one_after_another(self):
        for menu in big_menus():
            for first, second in pairs(menu)[::97]:
                ever, soon = gap_ever(menu, first, second), gap_in(menu, first, second, 30)
                self.assertTrue(ever is None or ever >= soon)

    def test_arguments_by_name(self):
        self.assertEqual(gap_ever(second=HAT_FIRST, first=HAT_LAST, menu=doc_menu()), 2)


class ArgumentsTest(unittest.TestCase):
    def test_the_arguments_stay(self):
        for menu in small_menus() + [place_menu()]:
            for first, second in pairs(menu)[:40]:
                before = list(first), list(second), told(menu)
                answers = gap_in(menu, first, second, 5), gap_ever(menu, first, second)
                self.assertEqual((gap_in(menu, first, second, 5), gap_ever(menu, first, second)), answers)
                self.assertEqual((first, second, told(menu)), before)

    def test_bad_packings_keep_the_very_value(self):
        for value in no_packings():
            for call, more in ((gap_in, {"days": 0}), (gap_in, {"days": 30}), (gap_ever, {})):
                for first, second in ((value, HAT_LAST), (HAT_FIRST, value), (value, ["hat"]), (value, value)):
                    name, kept = raised(call, first=first, second=second, menu=doc_menu(), **more)
                    self.assertEqual(name, "BadPacking")
                    self.assertIs(kept, value)

    def test_the_first_packing_comes_ahead_of_the_second_one(self):
        first, second = ["hat"], ["hat"]
        self.assertIs(raised(gap_in, doc_menu(), first, second, 3)[1], first)
        self.assertIs(raised(gap_ever, doc_menu(), first, second)[1], first)


if __name__ == "__main__":
    unittest.main()
