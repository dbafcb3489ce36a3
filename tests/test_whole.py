"""[1] and [2] over the whole program: names, arguments, new lists, the same answers again, one menu for all calls."""

import copy
import importlib
import inspect
import unittest

from dugdays.menus import Menu
from dugdays.suitcases import Suitcase
from dugdays.texts import menu_text, read_menu
from helpers import (
    ERRORS, any_values, big_menus, doc_menu, doc_parts, menus_of_all_shapes, packings, place_menu, raised, small_menus,
    told,
)

FUNCTIONS = {
    "days": {
        "is_packing": "menu value", "dug": "menu packing weather", "behind": "menu packing weather",
    },
    "trips": {"is_trip": "menu value", "digs": "menu packing trip", "left": "menu packing trip"},
    "spans": {
        "most_digs": "menu packing days", "few_digs": "menu packing days", "most_trip": "menu packing days",
        "few_trip": "menu packing days",
    },
    "packings": {"least_most": "menu days", "best_packings": "menu days"},
    "endless": {"mean_digs": "menu packing", "mean_ring": "menu packing"},
    "beside": {"gap_in": "menu first second days", "gap_ever": "menu first second"},
    "choices": {"kept_to": "menu packing days", "put_back": "menu packing weather days"},
    "clues": {"fitting": "menu clues", "lies": "menu clues"},
    "texts": {"menu_text": "menu", "read_menu": "text"},
}
CLASSES = {
    "menus": {"Menu": {
        "__init__": "self things weathers", "wishes": "self weather", "back": "self weather", "later": "self weather",
        "__eq__": "self other", "things": None, "weathers": None,
    }},
    "suitcases": {"Suitcase": {
        "__init__": "self menu packing", "live": "self weather", "swap": "self place", "undo": "self number",
        "fork": "self", "__eq__": "self other", "menu": None, "packing": None, "days": None, "total": None,
    }},
    "errors": {name: {"__init__": "self " + attribute} for name, attribute in ERRORS.items()},
}


def find(module, name):
    return getattr(importlib.import_module("dugdays." + module), name)


def functions():
    return [(module, name, names) for module, rows in FUNCTIONS.items() for name, names in rows.items()]


def arguments(menu, days=3):
    """For each name of an argument a value that the calls take."""
    packing = packings(menu)[-1]
    trip = [menu.weathers[0]]
    while len(trip) < days:
        trip.append(menu.later(trip[-1])[-1])
    return {
        "menu": menu, "value": packing, "packing": packing, "first": packing, "second": packings(menu)[0],
        "weather": menu.weathers[-1], "trip": trip, "days": days, "clues": [(menu.weathers[0], 0)],
        "text": menu_text(menu),
    }


def ask_all(menu, days=3):
    """What the calls of all stages answer of a menu, by the names of their arguments."""
    values = arguments(menu, days)
    found = {}
    for module, name, names in functions():
        found[name] = find(module, name)(**{key: values[key] for key in names.split()})
    case = Suitcase(menu, values["packing"])
    found["case"] = [case.live(weather) for weather in values["trip"]], case.packing, case.days, case.total
    case.undo(1)
    found["undo"] = case.menu, case.packing, case.days, case.total
    return found


def mutable_parts(value):
    """The lists and dicts in what a call answers."""
    if isinstance(value, (list, tuple)):
        inner = [part for entry in value for part in mutable_parts(entry)]
        return inner + [value] if isinstance(value, list) else inner
    return [value] if isinstance(value, dict) else []


def change(value):
    for part in mutable_parts(value):
        part.clear()


class InterfaceTest(unittest.TestCase):
    def test_each_function_in_its_file_with_its_names(self):
        for module, name, names in functions():
            function = find(module, name)
            self.assertTrue(inspect.isfunction(function), name)
            self.assertEqual((function.__module__, function.__name__), ("dugdays." + module, name))
            self.assertEqual(list(inspect.signature(function).parameters), names.split(), name)

    def test_each_class_in_its_file_with_its_own_methods_and_properties(self):
        for module, classes in CLASSES.items():
            for name, methods in classes.items():
                own = find(module, name)
                self.assertEqual((own.__module__, own.__name__), ("dugdays." + module, name))
                for method, names in methods.items():
                    self.assertIn(method, vars(own), name)
                    if names is None:
                        self.assertIs(type(vars(own)[method]), property)
                    else:
                        self.assertEqual(list(inspect.signature(vars(own)[method]).parameters), names.split())


class ArgumentsTest(unittest.TestCase):
    def test_by_place_and_by_name_in_any_sequence(self):
        for menu in small_menus():
            values = arguments(menu)
            for module, name, names in functions():
                function, keys = find(module, name), names.split()
                answer = function(*[values[key] for key in keys])
                for row in (keys, keys[::-1], keys[1:] + keys[:1]):
                    self.assertEqual(function(**{key: values[key] for key in row}), answer, name)
                if len(keys) > 1:
                    more = {key: values[key] for key in keys[:0:-1]}
                    self.assertEqual(function(values[keys[0]], **more), answer, name)

    def test_methods_by_name(self):
        menu = doc_menu()
        things, weathers = doc_parts()
        self.assertEqual(Menu(weathers=weathers, things=things), Menu(things, weathers))
        self.assertEqual(menu.wishes(weather="rain"), ["boots", "coat"])
        self.assertEqual((menu.later(weather="rain"), menu.back(weather="rain")), (["sun"], "top"))
        case = Suitcase(packing=things, menu=menu)
        self.assertEqual(case, Suitcase(menu, things))
        self.assertEqual((case.live(weather="sun"), case.swap(place=0), case.undo(number=1)), (0, None, None))
        self.assertIs(case.__eq__(other=case.fork()), True)

    def test_arguments_are_as_they_were(self):
        for menu in small_menus() + menus_of_all_shapes(10):
            values = arguments(menu)
            before = copy.deepcopy(values), told(menu)
            for module, name, names in functions():
                find(module, name)(**{key: values[key] for key in names.split()})
                self.assertEqual((values, told(menu)), before, name)
            case = Suitcase(menu, values["packing"])
            for weather in values["trip"]:
                case.live(weather)
            if len(menu.things) > 1:
                case.swap(0)
            case.undo(2)
            self.assertEqual((values, told(menu)), before)

    def test_arguments_are_as_they_were_behind_an_error(self):
        wrong = {
            "packing": [["hat", ["coat"]]], "first": [["hat", {}]], "second": [[[]]], "weather": [["sun"], {"sun": []}],
            "trip": [["sun", ["sun"]]], "clues": [[("sun", [0])], [("sun", 0), ["rain", 0]]],
            "text": [["things a"], {}],
        }
        asked = 0
        for module, name, names in functions():
            for key, value in [(key, value) for key in names.split() for value in wrong.get(key, [])]:
                values = {**arguments(doc_menu()), key: value}
                before = copy.deepcopy(values)
                call = {other: values[other] for other in names.split()}
                self.assertEqual(raised(find(module, name), **call), raised(find(module, name), **call))
                self.assertEqual(values, before, name)
                asked += 1
        self.assertGreater(asked, 20)


class AnswersTest(unittest.TestCase):
    def test_each_list_is_new(self):
        for menu in small_menus():
            values = arguments(menu)
            for module, name, names in functions():
                call = {key: values[key] for key in names.split()}
                answer = find(module, name)(**call)
                again = copy.deepcopy(answer)
                parts = mutable_parts(answer)
                self.assertEqual(len({id(part) for part in parts}), len(parts), name)
                handed_in = {id(part) for value in values.values() for part in mutable_parts(value)}
                self.assertFalse(handed_in & {id(part) for part in parts}, name)
                change(answer)
                self.assertEqual(find(module, name)(**call), again, name)

    def test_lists_of_menus_and_suitcases_are_new(self):
        for menu in small_menus():
            before = told(menu)
            case = Suitcase(menu, packings(menu)[0])
            for weather in menu.weathers:
                change([menu.wishes(weather), menu.later(weather), case.packing])
            self.assertEqual(told(menu), before)
            self.assertEqual((told(case.menu), case.packing), (before, packings(menu)[0]))

    def test_a_call_made_again_answers_the_same(self):
        for menu in small_menus() + big_menus()[:2]:
            self.assertEqual(ask_all(menu), ask_all(menu))

    def test_answers_of_calls_as_any_value(self):
        menu = doc_menu()
        packing = ["hat", "coat", "boots"]
        values = [answer for answer in ask_all(menu).values() if answer not in packings(menu)]
        for value in values + any_values():
            for call in (lambda: find("choices", "kept_to")(menu, value, 2), lambda: Suitcase(menu, value)):
                name, kept = raised(call)
                self.assertEqual(name, "BadPacking")
                self.assertIs(kept, value)
            self.assertEqual(raised(find("clues", "fitting"), menu, [("sun", 0), value]), ("BadClue", 1))
            self.assertIs(raised(Suitcase(menu, packing).live, value)[1], value)
            self.assertIs(raised(find("choices", "put_back"), menu, packing, value, 2)[1], value)

    def test_numbers_beyond_the_limits_raise_nothing(self):
        for menu in small_menus() + big_menus()[2:3]:
            values = arguments(menu)
            for module, name, names in functions():
                if "days" in names.split():
                    answers = [
                        find(module, name)(**{key: {**values, "days": days}[key] for key in names.split()})
                        for days in (-2, -1, 0, 31, 45)
                    ]
                    self.assertEqual(answers[:2], [answers[2]] * 2, name)

    def test_methods_of_which_nothing_is_said_return_none(self):
        case = Suitcase(doc_menu(), ["hat", "coat", "boots"])
        self.assertEqual([case.swap(1), case.undo(0), case.undo(1)], [None, None, None])


class OneMenuTest(unittest.TestCase):
    def test_one_menu_for_all_calls(self):
        for made in (doc_menu, place_menu, lambda: small_menus()[4], lambda: big_menus()[2]):
            one = made()
            for days in (0, 1, 3, 0, 3):
                if days:
                    self.assertEqual(ask_all(one, days), ask_all(made(), days))
                for module, name, names in functions():
                    values, others = arguments(one, max(days, 1)), arguments(made(), max(days, 1))
                    values["days"] = others["days"] = days
                    self.assertEqual(
                        find(module, name)(**{key: values[key] for key in names.split()}),
                        find(module, name)(**{key: others[key] for key in names.split()}),
                    )
                self.assertEqual((one, told(one)), (made(), told(made())))

    def test_a_menu_made_and_the_one_read_from_its_text(self):
        for menu in small_menus() + menus_of_all_shapes(10):
            again = read_menu(menu_text(menu))
            self.assertEqual(ask_all(again), ask_all(menu))
            self.assertEqual((again, told(again)), (menu, told(menu)))

    def test_errors_between_the_calls_change_nothing(self):
        menu = doc_menu()
        wanted = ask_all(doc_menu())
        for value in any_values():
            raised(find("days", "dug"), menu, ["hat", "coat", "boots"], value)
            raised(find("choices", "put_back"), menu, value, value, 12)
            raised(find("clues", "lies"), menu, [value])
            raised(find("beside", "gap_in"), menu, value, value, 3)
            raised(menu.later, value)
        self.assertEqual((ask_all(menu), told(menu)), (wanted, told(doc_menu())))

    def test_stages_agree_with_each_other(self):
        for menu in small_menus() + menus_of_all_shapes(10):
            values = arguments(menu, 4)
            packing, trip = values["packing"], values["trip"]
            case = Suitcase(menu, packing)
            made = [case.live(weather) for weather in trip]
            self.assertEqual(case.total, find("trips", "digs")(menu, packing, trip))
            self.assertEqual(case.packing, find("trips", "left")(menu, packing, trip))
            clues = list(zip(trip, made))
            self.assertIn(packing, find("clues", "fitting")(menu, clues))
            for thing, place in find("clues", "lies")(menu, clues):
                self.assertEqual(case.packing[place], thing)
            self.assertLessEqual(
                find("choices", "kept_to")(menu, packing, 4), find("spans", "most_digs")(menu, packing, 4),
            )


if __name__ == "__main__":
    unittest.main()
