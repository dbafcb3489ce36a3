"""The text of a menu, and what is read from texts, the first wrong line among it."""

import re
import unittest

from dugdays.menus import Menu
from dugdays.texts import menu_text, read_menu
from helpers import (
    any_values, big_menus, doc_menu, menus_of_all_shapes, place_menu, raised, row_menus, small_menus, told,
)

DOC_TEXT = "things hat coat boots\nsun top : hat > sun rain\nrain top : boots coat > sun"
WEATHER = re.compile("([a-z]{1,8}) (top|place) :((?: [a-z]{1,8})*) >((?: [a-z]{1,8})+)")


def wrong_in_itself(line, things, names):
    """Whether a weather's line, behind lines of the names, is not as it must be in itself."""
    parts = WEATHER.fullmatch(line)
    if parts is None or len(names) == 4 or parts[1] in names:
        return True
    wishes, later = parts[3].split(), parts[4].split()
    return len(wishes) != len({*wishes} & {*things}) or len(later) != len({*later})


def first_wrong_line(text):
    """The number of the first wrong line of a string, as the document counts it, or None."""
    first, *lines = text.split("\n")
    things = first.split(" ")[1:]
    if not re.fullmatch("things( [a-z]{1,8}){1,5}", first) or len(things) != len({*things}):
        return 1
    names = []
    for number, line in enumerate(lines, 2):
        if wrong_in_itself(line, things, names):
            return number
        names.append(line.split(" ")[0])
    for number, line in enumerate(lines, 2):
        if not {*line.split(" > ")[1].split(" ")} <= {*names}:
            return number
    return None if names else 2


class MenuTextTest(unittest.TestCase):
    def test_line_by_line(self):
        self.assertEqual(menu_text(doc_menu()), DOC_TEXT)
        self.assertEqual(menu_text(place_menu()).split("\n"), [
            "things a b c d",
            "dull place : > wet dull",
            "wet place : d b > dry end",
            "dry top : c a d > dull wet",
            "end top : b > end",
        ])

    def test_the_least_and_the_greatest_menu(self):
        self.assertEqual(menu_text(Menu(["a"], {"x": ([], "top", ["x"])})), "things a\nx top : > x")
        things = ["abcdefgh", "b", "zzzzzzzz", "d", "e"]
        names = ["weathera", "x", "y", "z"]
        menu = Menu(things, {name: (things[::-1], "place", names) for name in names})
        rest = " place : e d zzzzzzzz b abcdefgh > weathera x y z"
        lines = ["things abcdefgh b zzzzzzzz d e"] + [name + rest for name in names]
        self.assertEqual(menu_text(menu), "\n".join(lines))

    def test_names_that_are_words_of_the_text(self):
        menu = Menu(["things", "top"], {"things": (["top"], "place", ["top"]), "top": (["things"], "top", ["things"])})
        text = "things things top\nthings place : top > top\ntop top : things > things"
        self.assertEqual(menu_text(menu), text)
        self.assertEqual(read_menu(text), menu)

    def test_a_text_for_each_menu(self):
        menus = small_menus() + big_menus() + row_menus() + menus_of_all_shapes(100)
        for menu in menus:
            for other in menus[::9]:
                self.assertIs(menu_text(menu) == menu_text(other), menu == other)

    def test_by_name_and_without_a_change(self):
        menu = doc_menu()
        self.assertEqual(menu_text(menu=menu), DOC_TEXT)
        self.assertIs(type(menu_text(menu)), str)
        self.assertEqual(told(menu), told(doc_menu()))


class ReadMenuTest(unittest.TestCase):
    def test_the_text_of_each_menu(self):
        for menu in small_menus() + big_menus() + row_menus() + menus_of_all_shapes(100):
            found = read_menu(menu_text(menu))
            self.assertIs(type(found), Menu)
            self.assertEqual((found, told(found)), (menu, told(menu)))
            self.assertEqual(menu_text(found), menu_text(menu))
            self.assertIsNone(first_wrong_line(menu_text(menu)))

    def test_by_hand(self):
        menu = read_menu("things b a\nx place : > y\ny top : a b > x y")
        self.assertEqual(told(menu), [("b", "a"), ("x", "y"), [([], "place", ["y"]), (["a", "b"], "top", ["x", "y"])]])

    def test_by_name_and_a_new_menu_each_time(self):
        self.assertEqual(read_menu(text=DOC_TEXT), doc_menu())
        self.assertIsNot(read_menu(DOC_TEXT), read_menu(DOC_TEXT))
        read_menu(DOC_TEXT).wishes("sun").append("coat")
        self.assertEqual(read_menu(DOC_TEXT), doc_menu())


class WrongTextTest(unittest.TestCase):
    def check(self, text, line):
        self.assertEqual((raised(read_menu, text), first_wrong_line(text)), (("BadText", line), line))

    def check_line(self, line, things="things a b c"):
        """A line that is wrong in itself, as the first weather's, as a later one and as the last one."""
        right = ["x top : a > y", "y place : > x z", "z top : c b > z"]
        for at in range(len(right) + 1):
            self.check("\n".join([things] + right[:at] + [line] + right[at:]), at + 2)
            self.check("\n".join([things] + right[:at] + [line] * 2), at + 2)

    def test_any_value_that_is_no_string(self):
        for value in any_values() + [[DOC_TEXT], (DOC_TEXT,), {DOC_TEXT: 1}, doc_menu(), DOC_TEXT.split("\n")]:
            if not isinstance(value, str):
                self.assertEqual(raised(read_menu, value), ("BadText", 1))

    def test_any_string_that_is_no_text(self):
        for value in any_values() + ["hat", "things", "menu a\nx top : > x", DOC_TEXT.upper()]:
            if isinstance(value, str):
                self.check(value, 1)

    def test_a_wrong_line_of_things(self):
        lines = [
            "", " ", "things", "things ", "things  a", "things a ", " things a", "things a  b", "thing a", "Things a",
            "thingsa", "a", "a b", "a things", "things a b a", "things a a", "things a b c d e f", "things A",
            "things abcdefghi", "things a2", "things a,b", "things : a", "things a >", "things a b c d e a",
            "things x top : > x", "things a x top : > x", "things things a things", "x top : > x", "things a\\nb",
        ]
        for line in lines:
            for rest in ("", "\nx top : > x", "\nx top : > y", "\n", "\nx"):
                self.check(line + rest, 1)

    def test_only_a_line_of_things(self):
        for line in ("things a", "things a b c d e", "things things"):
            self.check(line, 2)
            self.check(line + "\n", 2)

    def test_empty_lines(self):
        self.check("", 1)
        self.check("\n", 1)
        self.check("\n" + DOC_TEXT, 1)
        self.check(DOC_TEXT + "\n", 4)
        self.check(DOC_TEXT + "\n\n", 4)
        self.check(DOC_TEXT.replace("\n", "\n\n"), 2)
        self.check("things a\nx top : > x\n\ny top : > y", 3)

    def test_names(self):
        for name in ("", " ", "Q", "q2", "abcdefghi", "q-", ":", ">", "~", "1", "q\\n", "qQ"):
            self.check_line(name + " top : a > x")
            self.check_line("q top : a > x " + name)
            self.check_line("q top : a > " + name)
            self.check_line("q top : a > " + name + " x")
            self.check_line("q top : " + name + " > x")
            self.check_line("q top : a " + name + " > x")

    def test_names_of_one_and_of_eight_letters(self):
        text = "things a abcdefgh\nx top : abcdefgh a > zyxwvuts\nzyxwvuts place : a > x"
        self.assertEqual(menu_text(read_menu(text)), text)
        self.check(text.replace("abcdefgh", "abcdefghi"), 1)
        self.check(text.replace("zyxwvuts", "zyxwvutsr"), 2)

    def test_wishes(self):
        for wishes in ("d", "x", "a d", "d a", "a a", "a b a", "b a c a", "a b c a", "top", "things", "ab"):
            self.check_line("q top : " + wishes + " > x")
            self.check_line("q place : " + wishes + " > q")

    def test_the_word(self):
        for word in ("", "Top", "places", "tops", "to", "a", "x", ":", ">", "top top", "top place", "place-", "back"):
            self.check_line("q " + word + " : a > x")
            self.check_line("q " + word + " : > x")

    def test_a_weather_that_has_a_line_already(self):
        self.check("things a\nx top : > x\nx top : > x", 3)
        self.check("things a\nx top : > y\ny place : a > x\nx place : a > x", 4)
        self.check("things a\nx top : > y\ny top : > y\ny top : > y\nx top : > x", 4)
        self.check("things a\nx top : > q\nx top : > x", 3)

    def test_the_later_ones(self):
        for later in ("x x", "x y x", "q q", "x y z q x", "a b c d e a"):
            self.check_line("q top : a > " + later)
        for line in ("q top : a >", "q top : a > ", "q top : >", "q top : > ", "q top : a", "q top :", "q top : a b"):
            self.check_line(line)

    def test_the_signs_and_the_blanks(self):
        right = "q top : a b > x y"
        for at in range(len(right)):
            if right[at] == " ":
                self.check_line(right[:at] + " " + right[at:])
                # Without the blank between two names they are another one: then b is missing, or xy.
                if right[at - 1:at + 2] != "x y":
                    self.check_line(right[:at] + right[at + 1:])
        for line in (
            " " + right, right + " ", "q top a b > x y", "q top : a b x y", "q top > a b : x y", "q : top a b > x y",
            "q top : a b : x y", "q top : a : b > x y", "q top : a > b > x y", "q top : a b > x > y", "q top : : a > x",
            "q top : a > > x", "q top : > a > x", "q top ; a > x", "q top : a < x", "q top", "q", "q top:a>x", ": > x",
            "top : a > x", "things a b c", "things top : a > things :", "q top : a > x :", "q top : a > x, y",
        ):
            self.check_line(line)
        self.check("things a\nx top : a > x y\nxy top : > x", 2)
        self.check("things a\nx top : a > xy\ny top : > x", 2)

    def test_a_fifth_line(self):
        text = "things a\nx top : > x\ny top : > y\nz top : > z\nw top : > w"
        self.assertEqual(read_menu(text).weathers, ("x", "y", "z", "w"))
        for line in ("v top : > v", "v top : > x", "v top : > q", "x top : > x", "", "v"):
            self.check(text + "\n" + line, 6)
            self.check(text + "\n" + line + "\n" + line, 6)
            self.check(text.replace("> x", "> v") + "\n" + line, 6)

    def test_a_later_one_that_has_no_line(self):
        self.check("things a\nx top : > y", 2)
        self.check("things a\nx top : > x y", 2)
        self.check("things a\nx top : > a", 2)
        self.check("things a\nx top : > things", 2)
        self.check("things a\nx top : > y\ny top : > z", 3)
        self.check("things a\nx top : > z\ny top : > z", 2)
        self.check("things a\nx top : > y\ny top : > x\nz top : > x y z w", 4)

    def test_a_later_one_counts_only_if_no_line_is_wrong_in_itself(self):
        self.check("things a\nx top : > y\nz top : b > z", 3)
        self.check("things a\nx top : > y\nz top : > q\nx top : > x", 4)
        self.check("things a a\nx top : > y", 1)
        self.check("things a\nx top : > y\n", 3)

    def test_more_than_four_later_ones(self):
        self.check("things a\nx top : > x y z w v", 2)
        self.check("things a\nx top : > x\ny top : > x y z w v u", 3)
        self.check("things a\nx top : > x y z w v\ny top : b > x", 3)
        self.check("things a\nx top : > x y z w v\ny top : > y\nz top : > z\nw top : > w", 2)
        self.check("things a\nx top : > x y z w v\ny top : > y\nz top : > z\nw top : > w\nv top : > v", 6)
        self.check("things a\nx top : > x\ny top : > a b c d e a", 3)

    def test_two_wrong_lines_at_once(self):
        wrong = ["x top : b > x", "q back : > q", "q top : >", "Q top : > q", "", "q top : > q q"]
        for one in wrong:
            for other in wrong:
                self.check("things a\n" + one + "\n" + other, 2)
                self.check("things a\nx top : > x\n" + one + "\ny top : > y\n" + other, 3)
                self.check("things a a\n" + one + "\n" + other, 1)

    def test_texts_with_a_change_anywhere(self):
        for text in (DOC_TEXT, menu_text(place_menu()), menu_text(small_menus()[4]), "things a\nx top : > x"):
            for at in range(len(text) + 1):
                for put in ("", " ", "a", "x", "\n", ">", ":", "A", "  ", " a", " > x", "\nx top : > x", "\n\n"):
                    for end in (at, at + 1, at + 2, text.find("\n", at) + 1):
                        self.check_any(text[:at] + put + text[end:])

    def test_texts_with_words_exchanged(self):
        for text in (DOC_TEXT, menu_text(place_menu())):
            words = re.split("([ \n])", text)
            for first in range(len(words)):
                for second in range(first):
                    row = list(words)
                    row[first], row[second] = row[second], row[first]
                    self.check_any("".join(row))

    def check_any(self, text):
        line = first_wrong_line(text)
        if line is None:
            self.assertEqual(menu_text(read_menu(text)), text)
        else:
            self.assertEqual(raised(read_menu, text), ("BadText", line), text)

    def test_long_texts(self):
        self.check("things " + "a " * 50000, 1)
        self.check("things a\nx top : " + "a " * 50000 + "> x", 2)
        self.check("things a\nx top : >" + " x" * 50000, 2)
        self.check(DOC_TEXT + "\n" * 50000, 4)
        self.check("a" * 100000, 1)

    def test_by_name(self):
        self.assertEqual(raised(read_menu, text="things a\nx top : b > x"), ("BadText", 2))


if __name__ == "__main__":
    unittest.main()
