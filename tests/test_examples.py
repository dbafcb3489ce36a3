"""The examples of DOC.md, as they stand there."""

import unittest

from helpers import ERRORS
from dugdays.errors import DigError

STAGE_1 = """
>>> from dugdays.menus import Menu
>>> menu = Menu(["hat", "coat", "boots"], {"sun": (["hat"], "top", ["sun", "rain"]), "rain": (["boots", "coat"], "top", ["sun"])})
>>> [menu.things, menu.weathers, menu.wishes("rain"), menu.later("rain"), menu.back("rain")]
[('hat', 'coat', 'boots'), ('sun', 'rain'), ['boots', 'coat'], ['sun'], 'top']
>>> menu.wishes("snow")
raises BadWeather('snow')
"""

STAGE_2 = """
>>> from dugdays.days import behind, dug, is_packing
>>> [is_packing(menu, ["coat", "hat", "boots"]), is_packing(menu, ("coat", "hat", "boots")), is_packing(menu, ["coat"])]
[True, False, False]
>>> [dug(menu, ["hat", "coat", "boots"], "rain"), behind(menu, ["hat", "coat", "boots"], "rain"), dug(menu, ["coat", "boots", "hat"], "sun")]
[3, ['coat', 'boots', 'hat'], 2]
"""

STAGE_3 = """
>>> from dugdays.trips import digs, is_trip, left
>>> [is_trip(menu, ["sun", "rain", "sun"]), is_trip(menu, ["rain"]), is_trip(menu, []), is_trip(menu, ["sun", "rain", "rain"])]
[True, False, True, False]
>>> [digs(menu, ["hat", "coat", "boots"], ["sun", "rain", "sun"]), left(menu, ["hat", "coat", "boots"], ["sun", "rain", "sun"])]
[5, ['hat', 'coat', 'boots']]
>>> digs(menu, ["hat", "coat", "boots"], ["sun", "rain", "rain"])
raises BadTrip(2)
"""

STAGE_4 = """
>>> from dugdays.spans import few_digs, few_trip, most_digs, most_trip
>>> [most_digs(menu, ["hat", "coat", "boots"], 3), few_digs(menu, ["hat", "coat", "boots"], 3), most_digs(menu, ["hat", "coat", "boots"], 0)]
[5, 0, 0]
>>> [most_trip(menu, ["hat", "coat", "boots"], 3), few_trip(menu, ["hat", "coat", "boots"], 3)]
[['sun', 'rain', 'sun'], ['sun', 'sun', 'sun']]
"""

STAGE_5 = """
>>> from dugdays.packings import best_packings, least_most
>>> [least_most(menu, 1), best_packings(menu, 1), least_most(menu, 2), best_packings(menu, 2)]
[0, [['hat', 'coat', 'boots'], ['hat', 'boots', 'coat']], 2, [['hat', 'boots', 'coat']]]
"""

STAGE_6 = """
>>> from dugdays.endless import mean_digs, mean_ring
>>> [mean_digs(menu, ["hat", "coat", "boots"]), len(mean_ring(menu, ["hat", "coat", "boots"]))]
[(5, 2), 2]
>>> mean_digs(Menu(["hat", "coat"], {"dry": (["hat"], "place", ["dry"])}), ["coat", "hat"])
(1, 1)
"""

STAGE_7 = """
>>> from dugdays.beside import gap_ever, gap_in
>>> [gap_in(menu, ["coat", "boots", "hat"], ["hat", "coat", "boots"], 1), gap_in(menu, ["hat", "coat", "boots"], ["coat", "boots", "hat"], 1)]
[2, -2]
>>> [gap_ever(menu, ["hat", "coat", "boots"], ["hat", "coat", "boots"]), gap_ever(menu, ["coat", "boots", "hat"], ["hat", "coat", "boots"])]
[0, 2]
>>> gap_ever(Menu(["hat", "coat"], {"dry": (["hat"], "place", ["dry"])}), ["coat", "hat"], ["hat", "coat"]) is None
True
"""

STAGE_8 = """
>>> from dugdays.choices import kept_to, put_back
>>> [kept_to(menu, ["hat", "coat", "boots"], 3), kept_to(menu, ["hat", "coat", "boots"], 0), sorted(put_back(menu, ["hat", "coat", "boots"], "sun", 0))]
[5, 0, ['boots', 'coat', 'hat']]
"""

STAGE_9 = """
>>> from dugdays.clues import fitting, lies
>>> [fitting(menu, [("sun", 2)]), lies(menu, [("sun", 2)]), fitting(menu, [("sun", 7)]), lies(menu, [("sun", 7)])]
[[['coat', 'boots', 'hat'], ['boots', 'coat', 'hat']], [('hat', 0)], [], None]
"""

STAGE_10 = """
>>> from dugdays.suitcases import Suitcase
>>> case = Suitcase(menu, ["hat", "coat", "boots"])
>>> [case.live("sun"), case.live("rain"), case.packing, case.days, case.total, case.swap(0), case.packing, case.undo(2), case.packing]
[0, 3, ['coat', 'boots', 'hat'], 2, 3, None, ['boots', 'coat', 'hat'], None, ['hat', 'coat', 'boots']]
"""

STAGE_11 = r"""
>>> from dugdays.texts import menu_text, read_menu
>>> menu_text(menu)
'things hat coat boots\nsun top : hat > sun rain\nrain top : boots coat > sun'
>>> [read_menu(menu_text(menu)) == menu, read_menu("things a\nx place : > x").wishes("x")]
[True, []]
>>> read_menu("things a\nx top : b > x")
raises BadText(2)
"""

STAGES = (
    STAGE_1, STAGE_2, STAGE_3, STAGE_4, STAGE_5, STAGE_6, STAGE_7, STAGE_8, STAGE_9, STAGE_10, STAGE_11,
)


def answer(row, names):
    """What a row of an example answers, in the form that DOC.md writes."""
    try:
        return repr(eval(row, names))
    except DigError as error:
        name = error.__class__.__name__
        return f"raises {name}({getattr(error, ERRORS[name])!r})"


def answers(text, names):
    """The rows of an example that are asked, each with what the text says and what it answers."""
    lines = text.strip().split("\n")
    found = []
    for at, line in enumerate(lines):
        if not line.startswith(">>> "):
            continue
        row = line[len(">>> "):]
        if at + 1 < len(lines) and not lines[at + 1].startswith(">>> "):
            found.append((row, lines[at + 1], answer(row, names)))
        else:
            exec(row, names)
    return found


class ExamplesTest(unittest.TestCase):
    def test_the_examples_answer_what_the_document_says(self):
        names = {}
        asked = 0
        for text in STAGES:
            for row, wanted, got in answers(text, names):
                self.assertEqual(got, wanted, row)
                asked += 1
        self.assertEqual(asked, 21)


if __name__ == "__main__":
    unittest.main()
