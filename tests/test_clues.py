"""What was dug on the days of a trip tells how the things lay, and where some of them lie now."""

import copy
import unittest

from dugdays.clues import fitting, lies
from dugdays.menus import Menu
from helpers import (
    any_values, big_menus, doc_menu, first_wrong, menus_of_all_shapes, packings, place_menu, plain_day, raised,
    rows_of_days, small_menus, told, trips_of,
)


def days_of(menu, packing, trip):
    """The digs of each day of a trip, and the packing behind the last one."""
    made = []
    for weather in trip:
        more, packing = plain_day(menu, packing, weather)
        made.append(more)
    return made, list(packing)


def menus():
    return small_menus() + menus_of_all_shapes(20, things=3) + menus_of_all_shapes(20, things=4, weathers=3)[10:]


class FittingTest(unittest.TestCase):
    def check(self, menu, trip, made, lived):
        """lived: (packing, digs of the days, packing behind them) for all packings, in the order of stage 5."""
        clues = list(zip(trip, made))
        fit = [(packing, behind) for packing, digs, behind in lived if digs == made]
        self.assertEqual(fitting(menu, clues), [packing for packing, _ in fit])
        known = [
            (thing, behind.index(thing)) for thing in menu.things for _, behind in fit[:1]
            if len({other.index(thing) for _, other in fit}) == 1
        ]
        self.assertEqual(lies(menu, clues), known if fit else None)

    def test_all_packings_and_their_clues(self):
        for menu in menus():
            for days in range(4):
                for trip in trips_of(menu, days)[::3]:
                    lived = [(packing, *days_of(menu, packing, trip)) for packing in packings(menu)]
                    for _, made, _ in lived[::5]:
                        self.check(menu, trip, made, lived)
                        for day in range(days):
                            self.check(menu, trip, made[:day] + [made[day] + 1] + made[day + 1:], lived)

    def test_no_clues(self):
        for menu in menus() + big_menus():
            self.assertEqual(fitting(menu, []), packings(menu))
            self.assertEqual(lies(menu, []), [] if len(menu.things) > 1 else [(menu.things[0], 0)])

    def test_by_hand(self):
        menu = doc_menu()
        self.assertEqual(fitting(menu, [("sun", 0)]), [["hat", "coat", "boots"], ["hat", "boots", "coat"]])
        self.assertEqual(lies(menu, [("sun", 0)]), [("hat", 0)])
        self.assertEqual(fitting(menu, [("sun", 0), ("rain", 3)]), [["hat", "coat", "boots"]])
        self.assertEqual(lies(menu, [("sun", 0), ("rain", 3)]), [("hat", 2), ("coat", 0), ("boots", 1)])
        self.assertEqual(fitting(menu, [("sun", 1)]), [["coat", "hat", "boots"], ["boots", "hat", "coat"]])
        self.assertEqual(fitting(menu, [("sun", 0), ("sun", 1)]), [])

    def test_the_order_is_that_of_the_menu_and_not_of_the_alphabet(self):
        menu = Menu(["c", "a", "b"], {"x": (["a"], "place", ["x"])})
        self.assertEqual(fitting(menu, [("x", 1)]), [["c", "a", "b"], ["b", "a", "c"]])
        self.assertEqual(lies(menu, [("x", 1)]), [("a", 1)])
        menu = Menu(["c", "a", "b"], {"x": (["b", "c"], "top", ["x"])})
        self.assertEqual(lies(menu, [("x", 0)]), [("c", 0), ("a", 2), ("b", 1)])

    def test_things_lie_where_they_lie_now_and_not_where_they_lay(self):
        menu = Menu(["a", "b", "c"], {"x": (["c", "b"], "top", ["x"])})
        self.assertEqual(fitting(menu, [("x", 3)]), [["a", "b", "c"]])
        self.assertEqual(lies(menu, [("x", 3)]), [("a", 2), ("b", 0), ("c", 1)])
        self.assertEqual(lies(menu, [("x", 1)]), [("a", 2), ("b", 0), ("c", 1)])

    def test_several_packings_fit_and_nothing_is_known(self):
        menu = Menu(["a", "b", "c"], {"x": ([], "top", ["x"])})
        self.assertEqual((fitting(menu, [("x", 0)] * 4), lies(menu, [("x", 0)] * 4)), (packings(menu), []))

    def test_clues_that_no_packing_fits(self):
        for menu in menus() + big_menus():
            for clues in ([(menu.weathers[0], 11)], [(menu.weathers[0], 10 ** 60 - 1)]):
                self.assertEqual((fitting(menu, clues), lies(menu, clues)), ([], None))

    def test_many_clues(self):
        for menu in [doc_menu(), place_menu(), *big_menus()]:
            trip = [menu.weathers[0]]
            while len(trip) < 3000:
                later = menu.later(trip[-1])
                trip.append(later[len(trip) // 2 % len(later)])
            packing = packings(menu)[-1]
            made, behind = days_of(menu, packing, trip)
            clues = list(zip(trip, made))
            self.assertIn(packing, fitting(menu, clues))
            for thing, place in lies(menu, clues):
                self.assertEqual(behind[place], thing)


class WrongCluesTest(unittest.TestCase):
    def check(self, menu, clues, position):
        self.assertEqual(raised(fitting, menu, clues), ("BadClue", position))
        self.assertEqual(raised(lies, menu, clues), ("BadClue", position))

    def test_any_value_as_an_entry(self):
        for value in any_values():
            self.check(doc_menu(), [value], 0)
            self.check(doc_menu(), [value, ("sun", 0), value], 0)
            self.check(doc_menu(), [("sun", 0), ("rain", 3), value, ("rain", 0)], 2)

    def test_any_value_as_a_weather_and_as_digs(self):
        for value in any_values() + ["snow", "hat", ["sun"], ("sun",), {"sun": 1}]:
            self.check(doc_menu(), [(value, 0)], 0)
            self.check(doc_menu(), [("sun", 0), (value, 0), (value, 0)], 1)
        for value in any_values():
            if not isinstance(value, int) or isinstance(value, bool) or value < 0:
                self.check(doc_menu(), [("sun", value)], 0)
                self.check(doc_menu(), [("sun", 7), ("sun", 0), ("rain", value)], 2)

    def test_other_lengths_and_kinds(self):
        for value in (("sun",), ("sun", 0, 0), ["sun", 0], {"sun": 0}, "sun", (0, "sun"), (("sun", 0),), ()):
            self.check(doc_menu(), [value], 0)
            self.check(doc_menu(), [("sun", 0), value], 1)

    def test_weathers_that_can_not_stand_there(self):
        for menu in small_menus():
            for days in range(1, 4):
                for row in rows_of_days(menu, days):
                    wrong = first_wrong(menu, row)
                    if wrong is not None:
                        self.check(menu, [(weather, 0) for weather in row], wrong)
                        self.check(menu, [(weather, 99) for weather in row], wrong)

    def test_the_first_of_several(self):
        menu = doc_menu()
        self.check(menu, [("sun", 0), ("rain", -1), ("rain", 0)], 1)
        self.check(menu, [("sun", 0), ("rain", 0), ("rain", 0), None], 2)
        self.check(menu, [("sun", 0), ("rain", 0), None, ("rain", 0)], 2)
        self.check(menu, [("rain", -1)], 0)
        self.check(menu, [("rain", 0), ("sun", -1)], 0)

    def test_clues_that_nothing_fits_do_not_hide_a_wrong_one(self):
        self.check(doc_menu(), [("sun", 9), ("sun", 0), ("snow", 0)], 2)
        self.check(doc_menu(), [("sun", 9), ("sun", True)], 1)


class ArgumentsTest(unittest.TestCase):
    def test_by_name(self):
        clues = [("sun", 2)]
        self.assertEqual(fitting(clues=clues, menu=doc_menu()), [["coat", "boots", "hat"], ["boots", "coat", "hat"]])
        self.assertEqual(lies(clues=clues, menu=doc_menu()), [("hat", 0)])

    def test_the_lists_are_new_and_the_arguments_stay(self):
        menu = doc_menu()
        for clues in ([], [("sun", 0)], [("sun", 2), ("sun", 0)], [("sun", 9)]):
            before = list(clues), told(menu)
            fit, known = fitting(menu, clues), lies(menu, clues)
            again = copy.deepcopy((fit, known))
            for packing in fit:
                packing.clear()
            fit.append("changed")
            if known is not None:
                known.append("changed")
            self.assertEqual((fitting(menu, clues), lies(menu, clues)), again)
            self.assertEqual((clues, told(menu)), before)

    def test_each_inner_list_is_one_of_its_own(self):
        for clues in ([], [("sun", 0)], [("sun", 2)]):
            fit = fitting(doc_menu(), clues)
            self.assertEqual(len({id(packing) for packing in fit}), len(fit))

    def test_a_call_that_raises_changes_nothing(self):
        menu, clues = doc_menu(), [("sun", 0), (["rain"], 0), {}]
        before = copy.deepcopy(clues), told(menu)
        for call in (fitting, lies):
            self.assertEqual(raised(call, menu, clues), raised(call, menu, clues))
            self.assertEqual((clues, told(menu)), before)


if __name__ == "__main__":
    unittest.main()
