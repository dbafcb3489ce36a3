"""The suitcase that days are lived with: what it tells, what it refuses, what is taken back, and what equals it."""

import unittest

from dugdays.menus import Menu
from dugdays.suitcases import Suitcase
from helpers import (
    any_values, big_menus, doc_menu, doc_parts, menus_of_all_shapes, no_packings, packings, place_menu, plain_day,
    raised, small_menus, told,
)

HAT_FIRST = ["hat", "coat", "boots"]


def doc_case():
    return Suitcase(doc_menu(), ["hat", "coat", "boots"])


def state(case):
    """All that a suitcase tells."""
    return told(case.menu), case.packing, case.days, case.total


class Plain:
    """A suitcase by plain lists, each call's state behind the other."""

    def __init__(self, menu, packing):
        self.menu = menu
        self.states = [(list(packing), list(menu.weathers[:1]), 0, 0)]

    def live(self, weather):
        packing, possible, days, total = self.states[-1]
        if weather not in possible:
            return "NotNow", weather
        made, packing = plain_day(self.menu, packing, weather)
        self.states.append((packing, self.menu.later(weather), days + 1, total + made))
        return made

    def swap(self, place):
        packing, possible, days, total = self.states[-1]
        if place not in range(len(packing) - 1):
            return "NotNow", place
        packing = list(packing)
        packing[place], packing[place + 1] = packing[place + 1], packing[place]
        self.states.append((packing, possible, days, total))
        return None

    def undo(self, number):
        if number >= len(self.states):
            return "TooFar", len(self.states) - 1
        self.states = self.states[:len(self.states) - number]
        return None

    def fork(self):
        other = Plain(self.menu, self.states[0][0])
        other.states = list(self.states)
        return other

    def equals(self, other):
        mine, others = self.states[-1], other.states[-1]
        return told(self.menu) == told(other.menu) and mine[0] == others[0] and sorted(mine[1]) == sorted(others[1])


def answer(call, *args):
    """What a call returns, or the name of the error that it raises and what that keeps."""
    try:
        return call(*args)
    except ValueError:
        return raised(call, *args)


class SuitcaseTest(unittest.TestCase):
    def check(self, case, menu, packing, days, total):
        self.assertEqual(state(case), (told(menu), packing, days, total))

    def test_a_new_suitcase(self):
        for menu in small_menus():
            for packing in packings(menu):
                case = Suitcase(menu, packing)
                self.check(case, menu, packing, 0, 0)
                self.assertIs(type(case.packing), list)
                self.assertEqual((type(case.days), type(case.total)), (int, int))
                self.assertEqual(case.menu, menu)

    def test_by_hand(self):
        case = doc_case()
        self.assertEqual(case.live("sun"), 0)
        self.assertEqual(case.live("rain"), 3)
        self.check(case, doc_menu(), ["coat", "boots", "hat"], 2, 3)
        self.assertIsNone(case.swap(0))
        self.check(case, doc_menu(), ["boots", "coat", "hat"], 2, 3)
        self.assertIsNone(case.swap(1))
        self.check(case, doc_menu(), ["boots", "hat", "coat"], 2, 3)
        self.assertEqual(case.live("sun"), 1)
        self.check(case, doc_menu(), ["hat", "boots", "coat"], 3, 4)
        self.assertEqual(case.live("sun"), 0)
        self.assertIsNone(case.undo(3))
        self.check(case, doc_menu(), ["boots", "coat", "hat"], 2, 3)
        self.assertEqual(case.live("sun"), 2)
        self.check(case, doc_menu(), ["hat", "boots", "coat"], 3, 5)
        self.assertIsNone(case.undo(4))
        self.check(case, doc_menu(), HAT_FIRST, 0, 0)

    def test_calls_by_turns_against_plain_lists(self):
        seed = 1
        for menu in small_menus() + big_menus()[:4] + menus_of_all_shapes(40):
            packing = packings(menu)[-1]
            pairs = [(Suitcase(menu, packing), Plain(menu, packing))]
            words = list(menu.weathers) * 3 + ["snow"]
            for step in range(150):
                seed = (seed * 1103515245 + 12345) % 2 ** 31
                kind, pick = (seed >> 12) % 10, seed >> 20
                case, plain = pairs[pick % len(pairs)]
                if kind < 5:
                    name, args = "live", (words[pick % len(words)],)
                elif kind < 7:
                    name, args = "swap", (pick % (len(packing) + 1) - 1,)
                else:
                    name, args = "undo", (pick % 5,)
                if kind == 9 and len(pairs) < 4:
                    pairs.append((case.fork(), plain.fork()))
                wanted = getattr(plain, name)(*args)
                self.assertEqual(answer(getattr(case, name), *args), wanted)
                for case, plain in pairs:
                    self.check(case, menu, plain.states[-1][0], *plain.states[-1][2:])
                    self.assertEqual(
                        [case == other for other, _ in pairs], [plain.equals(other) for _, other in pairs],
                    )

    def test_what_it_is_given_and_what_it_tells_can_be_changed(self):
        things, weathers = doc_parts()
        packing = ["hat", "coat", "boots"]
        case = Suitcase(Menu(things, weathers), packing)
        packing.reverse()
        things.clear()
        weathers["sun"][0].append("coat")
        weathers.clear()
        case.packing.clear()
        case.menu.wishes("sun").append("boots")
        case.menu.later("sun").clear()
        self.check(case, doc_menu(), HAT_FIRST, 0, 0)
        self.assertIsNot(case.packing, case.packing)
        for call in (lambda: case.live("sun"), lambda: case.live("rain"), lambda: case.swap(1), lambda: case.undo(1)):
            call()
            before = case.packing
            case.packing.append("bag")
            case.packing.reverse()
            self.assertEqual(case.packing, before)

    def test_the_menu_and_the_packing_stay(self):
        menu, packing = doc_menu(), ["hat", "coat", "boots"]
        case = Suitcase(menu, packing)
        for weather in ("sun", "rain", "sun", "sun"):
            case.live(weather)
        case.swap(1)
        case.fork().undo(5)
        self.assertEqual((packing, told(menu)), (HAT_FIRST, told(doc_menu())))

    def test_arguments_by_name(self):
        case = Suitcase(packing=HAT_FIRST, menu=doc_menu())
        self.assertEqual((case.live(weather="sun"), case.live(weather="rain")), (0, 3))
        self.assertIsNone(case.swap(place=1))
        self.assertEqual(case.packing, ["coat", "hat", "boots"])
        self.assertIsNone(case.undo(number=2))
        self.check(case, doc_menu(), HAT_FIRST, 1, 0)
        self.assertEqual(case.fork(), case)

    def test_its_own_methods_and_properties(self):
        for name in ("live", "swap", "undo", "fork", "__eq__", "__init__"):
            self.assertIn(name, vars(Suitcase))
        for name in ("menu", "packing", "days", "total"):
            self.assertIs(type(vars(Suitcase)[name]), property)

    def test_many_calls_one_after_another(self):
        case = doc_case()
        for _ in range(2000):
            case.live("sun")
            case.live("rain")
            case.swap(0)
        # Behind the first swap the hat lies under both, and then boots and coat under the hat: 2 digs and 2 digs.
        self.assertEqual((case.days, case.total), (4000, 3 + 1999 * 4))
        case.undo(5997)
        self.check(case, doc_menu(), ["boots", "coat", "hat"], 2, 3)


class LiveTest(unittest.TestCase):
    def test_only_the_first_weather_begins(self):
        for menu in small_menus() + big_menus():
            for weather in menu.weathers[1:]:
                case = Suitcase(menu, packings(menu)[0])
                self.assertEqual(raised(case.live, weather), ("NotNow", weather))
                self.assertEqual((case.days, case.total, case.packing), (0, 0, packings(menu)[0]))

    def test_what_can_follow(self):
        case = Suitcase(place_menu(), ["a", "b", "c", "d"])
        for weather in ("dull", "dull", "wet", "dry", "wet", "end", "end"):
            for other in ("dull", "wet", "dry", "end"):
                self.assertEqual(self.can_be(case, other), other in self.possible(case, place_menu()))
            case.live(weather)
        self.assertEqual([self.can_be(case, other) for other in ("dull", "wet", "dry", "end")], [False] * 3 + [True])

    def possible(self, case, menu):
        lived = {0: "dull", 1: "dull", 2: "dull", 3: "wet", 4: "dry", 5: "wet", 6: "end"}
        return menu.later(lived[case.days]) if case.days else ["dull"]

    def can_be(self, case, weather):
        other = case.fork()
        return answer(other.live, weather) != ("NotNow", weather)

    def test_a_swap_is_no_day(self):
        case = doc_case()
        case.swap(0)
        self.assertEqual(raised(case.live, "rain"), ("NotNow", "rain"))
        case.live("sun")
        case.live("rain")
        case.swap(0)
        self.assertEqual(raised(case.live, "rain"), ("NotNow", "rain"))
        self.assertEqual(case.live("sun"), 2)

    def test_what_can_be_is_taken_back_too(self):
        case = doc_case()
        case.live("sun")
        case.live("rain")
        case.undo(1)
        self.assertEqual(case.live("rain"), 3)
        case.undo(2)
        self.assertEqual(raised(case.live, "rain"), ("NotNow", "rain"))
        self.assertEqual(case.live("sun"), 0)

    def test_any_value_that_is_no_weather_is_kept_itself(self):
        case = doc_case()
        for _ in range(3):
            before = state(case)
            for value in any_values() + ["snow", "hat", "Sun", ["sun"], ("sun",), {"sun": 1}, case, 0, 1]:
                name, kept = raised(case.live, value)
                self.assertEqual(name, "NotNow")
                self.assertIs(kept, value)
                self.assertEqual(state(case), before)
            case.live("sun")


class SwapTest(unittest.TestCase):
    def test_all_places(self):
        for menu in small_menus():
            for packing in packings(menu)[::13]:
                for place in range(len(packing) - 1):
                    case = Suitcase(menu, packing)
                    self.assertIsNone(case.swap(place))
                    swapped = packing[:place] + [packing[place + 1], packing[place]] + packing[place + 2:]
                    self.assertEqual((case.packing, case.days, case.total), (swapped, 0, 0))
                    case.swap(place)
                    self.assertEqual(case.packing, packing)

    def test_places_that_are_none(self):
        for menu in small_menus():
            case = Suitcase(menu, packings(menu)[-1])
            before = state(case)
            last = len(menu.things) - 1
            for place in (last, last + 1, -1, -2, -last, 10 ** 60 - 1, 1 - 10 ** 60):
                if not 0 <= place < last:
                    self.assertEqual(raised(case.swap, place), ("NotNow", place))
            for place in any_values() + ["0", [0], (0,), {0: 0}, True, False, case]:
                if type(place) is not int:
                    name, kept = raised(case.swap, place)
                    self.assertEqual(name, "NotNow")
                    self.assertIs(kept, place)
            self.assertEqual(state(case), before)
            self.assertEqual(raised(case.undo, 1), ("TooFar", 0))


class UndoTest(unittest.TestCase):
    def test_none_some_and_all(self):
        calls = [("live", "sun"), ("swap", 1), ("live", "rain"), ("swap", 0), ("live", "sun"), ("live", "rain")]
        case = doc_case()
        states = [state(case)]
        for name, argument in calls:
            getattr(case, name)(argument)
            states.append(state(case))
        for number in range(len(calls) + 1):
            other = case.fork()
            self.assertIsNone(other.undo(0))
            self.assertEqual(state(other), states[-1])
            self.assertIsNone(other.undo(number))
            self.assertEqual(state(other), states[len(calls) - number])
            self.assertEqual(raised(other.undo, len(calls) - number + 1), ("TooFar", len(calls) - number))
            self.assertIsNone(other.undo(len(calls) - number))
            self.assertEqual(state(other), states[0])
            self.assertEqual(raised(other.undo, 1), ("TooFar", 0))

    def test_too_far(self):
        case = doc_case()
        self.assertEqual(raised(case.undo, 1), ("TooFar", 0))
        self.assertEqual(raised(case.undo, 10 ** 60 - 1), ("TooFar", 0))
        self.assertIsNone(case.undo(0))
        case.live("sun")
        case.swap(0)
        before = state(case)
        self.assertEqual(raised(case.undo, 3), ("TooFar", 2))
        self.assertEqual(state(case), before)
        case.undo(1)
        self.assertEqual(raised(case.undo, 2), ("TooFar", 1))
        case.undo(1)
        self.assertEqual(raised(case.undo, 2), ("TooFar", 0))

    def test_refused_calls_are_not_taken_back(self):
        case = doc_case()
        case.live("sun")
        for call, value in ((case.live, "snow"), (case.swap, 2), (case.swap, -1), (case.undo, 2)):
            raised(call, value)
        self.assertEqual(raised(case.undo, 2), ("TooFar", 1))
        self.assertIsNone(case.undo(1))
        self.assertEqual(state(case), state(doc_case()))

    def test_less_than_no_calls_raise_nothing(self):
        case = doc_case()
        case.live("sun")
        before = state(case)
        self.assertIsNone(case.undo(-1))
        self.assertEqual(state(case), before)

    def test_undo_itself_is_not_taken_back(self):
        case = doc_case()
        case.live("sun")
        case.undo(1)
        case.undo(0)
        self.assertEqual(raised(case.undo, 1), ("TooFar", 0))


class ForkTest(unittest.TestCase):
    def test_forks_go_on_by_themselves(self):
        case = doc_case()
        case.live("sun")
        other = case.fork()
        self.assertIsNot(other, case)
        self.assertIs(type(other), Suitcase)
        self.assertEqual((other, state(other)), (case, state(case)))
        other.live("rain")
        other.swap(0)
        self.assertEqual(state(case), (told(doc_menu()), HAT_FIRST, 1, 0))
        case.swap(1)
        self.assertEqual(state(other), (told(doc_menu()), ["boots", "coat", "hat"], 2, 3))
        case.undo(2)
        self.assertEqual(state(other), (told(doc_menu()), ["boots", "coat", "hat"], 2, 3))
        other.undo(3)
        self.assertEqual(state(other), state(case))

    def test_the_same_calls_to_take_back(self):
        case = doc_case()
        case.live("sun")
        case.swap(0)
        for other in (case.fork(), case.fork().fork()):
            self.assertEqual(raised(other.undo, 3), ("TooFar", 2))
            other.live("rain")
            self.assertEqual(raised(other.undo, 4), ("TooFar", 3))
            other.undo(3)
            self.assertEqual(state(other), state(doc_case()))
        self.assertEqual(raised(case.undo, 3), ("TooFar", 2))


class EqualTest(unittest.TestCase):
    def check(self, first, second, wanted):
        for one, other in ((first, second), (second, first)):
            self.assertIs(one == other, wanted)
            self.assertIs(one != other, not wanted)

    def test_the_same_packing_and_an_equal_menu(self):
        for menu, again in zip(small_menus(), small_menus()):
            rows = packings(menu)[:24]
            for one in rows:
                for other in rows:
                    self.check(Suitcase(menu, one), Suitcase(again, other), one == other)

    def test_another_menu(self):
        things, weathers = doc_parts()
        swapped = {name: weathers[name] for name in ("rain", "sun")}
        others = [
            Menu(["coat", "hat", "boots"], weathers),
            Menu(things, swapped),
            Menu(things, {**weathers, "sun": (["hat"], "place", ["sun", "rain"])}),
            Menu(things, {**weathers, "sun": (["hat"], "top", ["rain", "sun"])}),
            Menu(things, {**weathers, "sun": (["coat"], "top", ["sun", "rain"])}),
        ]
        for menu in others:
            self.check(Suitcase(menu, HAT_FIRST), doc_case(), False)

    def test_days_digs_and_calls_do_not_count(self):
        case, other = doc_case(), doc_case()
        case.live("sun")
        other.live("sun")
        for weather in ("rain", "sun", "sun"):
            other.live(weather)
        other.swap(1)
        other.swap(1)
        self.assertEqual((case.packing, other.packing), (HAT_FIRST, HAT_FIRST))
        self.assertNotEqual((case.days, case.total), (other.days, other.total))
        self.check(case, other, True)

    def test_the_weathers_that_can_be_now_count(self):
        case, other = doc_case(), doc_case()
        other.live("sun")
        self.assertEqual(case.packing, other.packing)
        self.check(case, other, False)
        case.live("sun")
        self.check(case, other, True)

    def test_a_new_one_equals_one_behind_a_day_that_only_the_first_weather_can_follow(self):
        case = doc_case()
        case.live("sun")
        case.live("rain")
        self.check(case, Suitcase(doc_menu(), ["coat", "boots", "hat"]), True)

    def test_the_sequence_of_the_weathers_that_can_be_now_does_not_count(self):
        menu = Menu(["a", "b"], {"x": ([], "top", ["x", "y"]), "y": ([], "place", ["y", "x"])})
        one, other = Suitcase(menu, ["a", "b"]), Suitcase(menu, ["a", "b"])
        for case in (one, other):
            case.live("x")
        self.check(one, other, True)
        other.live("y")
        self.check(one, other, True)

    def test_any_other_value_is_not_equal(self):
        case = Suitcase(doc_menu(), ["boots", "coat", "hat"])
        for value in any_values() + [state(case), case.packing, case.menu, [case], (case,), {"case": case}]:
            self.check(case, value, False)

    def test_equal_without_a_change(self):
        case, other = doc_case(), doc_case()
        case.live("sun")
        before = state(case), state(other)
        self.check(case, other, False)
        self.assertEqual((state(case), state(other)), before)


class WrongSuitcaseTest(unittest.TestCase):
    def test_bad_packings_keep_the_very_value(self):
        for value in no_packings():
            name, kept = raised(Suitcase, packing=value, menu=doc_menu())
            self.assertEqual(name, "BadPacking")
            self.assertIs(kept, value)
            self.assertIs(raised(Suitcase, doc_menu(), value)[1], value)


if __name__ == "__main__":
    unittest.main()
