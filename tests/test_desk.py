import random
import re
import unittest

from climbways.desk import Desk
from tests.helper import (
    GREAT, MIXED, SIGNS, assert_all_lists_unlike, assert_refused, cells_by_hand, changed_at_each_place, drawn_land,
    in_row, let_by_hand, longest_by_hand, no_texts, other_kinds, read_by_hand, small_lands, snake_land,
    way_writing_by_hand, writing_by_hand,
)

PARTS = {
    "NAME": "([a-z]{1,8})",
    "TEXT": "(.*)",
    "R": "(0|[1-9][0-9]?)",
    "C": "(0|[1-9][0-9]?)",
    "J": "(0|[1-9][0-9]?)",
    "N": "(0|[1-9][0-9]{0,8})",
    "X": "(0|-?[1-9][0-9]{0,8})",
}

ROWS = (
    "land NAME TEXT", "cell NAME R C X", "drop NAME", "long NAME J", "many NAME J", "way NAME J", "nth NAME J N",
    "high NAME J R C", "show NAME",
)

PATTERNS = [re.compile(" ".join(PARTS.get(word, word) for word in row.split()), re.DOTALL) for row in ROWS]

MIXED_TEXT = "1 2 3/4 5 6/7 8 9/steps 0:1/jumps 1:0"

# Each row of a desk with a small land by the name of a, as in well_desk.
WELL = (
    "land a 1 2/4 3/steps 0:-1 0:1/jumps 1:0", "cell a 1 0 -12", "drop a", "long a 1", "many a 1", "way a 1",
    "nth a 1 0", "high a 1 0 0", "show a",
)


def well_desk():
    desk = Desk()
    desk.say("land a 1 2/4 3/steps 0:-1 0:1/jumps 1:0")
    desk.say("land b 0/steps/jumps")
    return desk


def state_of(desk):
    return {name: desk.say("show " + name) for name in desk.names()}


class DeskByHand:
    """A desk that answers by listing all ways; a refusal is answered by its name."""

    def __init__(self):
        self.lands = {}

    def say(self, row):
        for pattern in PATTERNS:
            parts = pattern.fullmatch(row)
            if parts is not None:
                return self.answer(row.split(" ")[0], *parts.groups())
        return "NoRow"

    def answer(self, word, name, *rest):
        if word == "land":
            return self.take(name, *rest)
        if name not in self.lands:
            return "NoName"
        return getattr(self, word)(name, *[int(number) for number in rest])

    def take(self, name, text):
        land = None if "\n" in text else read_by_hand(text.replace("/", "\n"))
        if land is None:
            return "NoText"
        self.lands[name] = land
        return "ok"

    def cell(self, name, row, place, number):
        if (row, place) not in cells_by_hand(self.lands[name]):
            return "NoCell"
        self.lands[name][0][row][place] = number
        return "ok"

    def drop(self, name):
        del self.lands[name]
        return "ok"

    def long(self, name, j):
        return str(len(longest_by_hand(self.lands[name], j)[0]))

    def many(self, name, j):
        return str(len(longest_by_hand(self.lands[name], j)))

    def way(self, name, j):
        return self.nth(name, j, 0)

    def nth(self, name, j, number):
        longest = longest_by_hand(self.lands[name], j)
        if number >= len(longest):
            return "NoNumber"
        return way_writing_by_hand(longest[number])

    def high(self, name, j, row, place):
        if (row, place) not in cells_by_hand(self.lands[name]):
            return "NoCell"
        return str(max(len(way) for way in let_by_hand(self.lands[name], j) if way[0] == (row, place)))

    def show(self, name):
        return in_row(writing_by_hand(self.lands[name]))


class DeskTest(unittest.TestCase):
    def assert_as_by_hand(self, desk, by_hand, row):
        told = by_hand.say(row)
        if told.startswith("No"):
            assert_refused(self, told, desk.say, row)
        else:
            self.assertEqual(desk.say(row), told, row)

    def assert_refused_and_nothing_changed(self, name, desk, row):
        before = state_of(desk)
        assert_refused(self, name, desk.say, row)
        self.assertEqual(state_of(desk), before)


class AnswersTest(DeskTest):
    def test_each_row_and_its_answer(self):
        desk = Desk()
        told = [
            ("land hill " + MIXED_TEXT, "ok"),
            ("show hill", MIXED_TEXT),
            ("long hill 0", "3"),
            ("long hill 1", "4"),
            ("long hill 99", "5"),
            ("many hill 0", "3"),
            ("many hill 2", "6"),
            ("way hill 0", "0:0 0:1 0:2"),
            ("way hill 1", "0:0 0:1 0:2 1:2"),
            ("nth hill 0 0", "0:0 0:1 0:2"),
            ("nth hill 0 2", "2:0 2:1 2:2"),
            ("nth hill 1 5", "1:0 2:0 2:1 2:2"),
            ("high hill 0 1 1", "2"),
            ("high hill 1 1 1", "3"),
            ("high hill 10 0 0", "5"),
            ("high hill 0 2 2", "1"),
            ("cell hill 1 1 -77", "ok"),
            ("show hill", "1 2 3/4 -77 6/7 8 9/steps 0:1/jumps 1:0"),
            ("long hill 0", "3"),
            ("many hill 0", "2"),
            ("high hill 0 1 0", "1"),
            ("drop hill", "ok"),
        ]
        for row, answer in told:
            self.assertEqual(desk.say(row), answer, row)
        self.assertEqual(desk.names(), [])

    def test_one_cell(self):
        desk = Desk()
        self.assertEqual(desk.say("land x 0/steps/jumps"), "ok")
        told = {
            "long x 0": "1", "many x 99": "1", "way x 3": "0:0", "nth x 0 0": "0:0", "high x 0 0 0": "1",
            "show x": "0/steps/jumps", "cell x 0 0 5": "ok",
        }
        for row, answer in told.items():
            self.assertEqual(desk.say(row), answer, row)
        self.assertEqual(desk.say("show x"), "5/steps/jumps")

    def test_answers_are_texts(self):
        desk = well_desk()
        for row in WELL[3:] + WELL[:3]:
            self.assertIs(desk.say(row).__class__, str)

    def test_a_way_of_many_cells(self):
        desk = Desk()
        desk.say("land snake " + in_row(writing_by_hand(snake_land())))
        self.assertEqual(desk.say("long snake 0"), "36")
        self.assertTrue(desk.say("way snake 0").startswith("0:0 0:1 0:2 0:3 0:4 0:5 1:5 1:4 "))
        self.assertEqual(desk.say("nth snake 0 0"), desk.say("way snake 0"))
        assert_refused(self, "NoNumber", desk.say, "nth snake 0 1")

    def test_many_lands_against_all_ways(self):
        desk = Desk()
        by_hand = DeskByHand()
        for land in small_lands()[::4]:
            rows = ["land a " + in_row(writing_by_hand(land)), "show a"]
            for j in (0, 1, 2, 40):
                rows += [row % j for row in ("long a %d", "many a %d", "way a %d", "nth a %d 0", "nth a %d 1")]
                rows += ["high a %d %d %d" % (j, row, place) for row, place in cells_by_hand(land)]
            for row in rows:
                self.assert_as_by_hand(desk, by_hand, row)

    def test_every_number_of_a_way(self):
        desk = Desk()
        for seed in range(20):
            land = drawn_land(seed)
            desk.say("land a " + in_row(writing_by_hand(land)))
            for j in (0, 1, 9):
                longest = longest_by_hand(land, j)
                for number, way in enumerate(longest):
                    self.assertEqual(desk.say("nth a %d %d" % (j, number)), way_writing_by_hand(way))
                assert_refused(self, "NoNumber", desk.say, "nth a %d %d" % (j, len(longest)))

    def test_land_by_a_name_that_stands_already(self):
        desk = well_desk()
        self.assertEqual(desk.say("land a 7 8 9/steps 0:1/jumps"), "ok")
        self.assertEqual(state_of(desk), {"a": "7 8 9/steps 0:1/jumps", "b": "0/steps/jumps"})
        self.assertEqual(desk.say("land a 7 8 9/steps 0:1/jumps"), "ok")
        self.assertEqual(desk.names(), ["a", "b"])
        desk.say("drop a")
        self.assertEqual(desk.names(), ["b"])

    def test_cell_with_each_number(self):
        desk = well_desk()
        for number in ("0", "1", "-1", "9", "-9", "10", "-10", "100", "999999999", "-999999999", "100000000"):
            self.assertEqual(desk.say("cell b 0 0 " + number), "ok")
            self.assertEqual(desk.say("show b"), number + "/steps/jumps")

    def test_cell_with_the_number_that_it_has(self):
        desk = well_desk()
        before = state_of(desk)
        self.assertEqual(desk.say("cell a 0 0 1"), "ok")
        self.assertEqual(state_of(desk), before)

    def test_cell_at_each_cell(self):
        desk = Desk()
        table = [["%d" % (6 * row + place) for place in range(6)] for row in range(6)]
        desk.say("land a " + "/".join(" ".join(row) for row in table) + "/steps/jumps")
        for row in range(6):
            for place in range(6):
                number = str(-100 - row * 6 - place)
                self.assertEqual(desk.say("cell a %d %d %s" % (row, place, number)), "ok")
                table[row][place] = number
                self.assertEqual(desk.say("show a"), "/".join(" ".join(row) for row in table) + "/steps/jumps")

    def test_a_cell_of_one_land_changes_no_other(self):
        desk = Desk()
        for name in ("a", "b"):
            desk.say("land " + name + " " + MIXED_TEXT)
        desk.say("cell a 0 0 50")
        self.assertEqual(desk.say("show b"), MIXED_TEXT)
        self.assertEqual(desk.say("show a"), "50" + MIXED_TEXT[1:])

    def test_very_long_numbers_in_a_text(self):
        desk = Desk()
        text = "1" + "0" * 900 + " -" + "9" * 150 + "/steps 0:-1/jumps"
        self.assertEqual(desk.say("land a " + text), "ok")
        self.assertEqual(desk.say("show a"), text)
        self.assertEqual(desk.say("long a 0"), "2")
        self.assertEqual(desk.say("way a 0"), "0:1 0:0")

    def test_names_of_one_and_of_eight_letters(self):
        desk = Desk()
        for name in ("a", "z", "abcdefgh", "zzzzzzzz", "land", "show", "drop", "cell", "steps", "jumps"):
            self.assertEqual(desk.say("land " + name + " 3/steps/jumps"), "ok")
            self.assertEqual(desk.say("show " + name), "3/steps/jumps")
        self.assertEqual(desk.names(), sorted(desk.names()))
        self.assertEqual(len(desk.names()), 10)

    def test_show_gives_what_land_takes(self):
        desk = Desk()
        for land in small_lands()[::5] + [MIXED, snake_land()]:
            desk.say("land a " + in_row(writing_by_hand(land)))
            self.assertEqual(desk.say("show a"), in_row(writing_by_hand(land)))
            self.assertEqual(desk.say("land b " + desk.say("show a")), "ok")
            self.assertEqual(desk.say("show b"), desk.say("show a"))

    def test_drop_and_a_name_that_was_dropped(self):
        desk = well_desk()
        self.assertEqual(desk.say("drop a"), "ok")
        self.assertEqual(desk.names(), ["b"])
        for row in WELL[1:]:
            assert_refused(self, "NoName", desk.say, row)
        self.assertEqual(desk.say("land a 6/steps/jumps"), "ok")
        self.assertEqual(desk.say("show a"), "6/steps/jumps")
        self.assertEqual(desk.names(), ["a", "b"])


class NoRowTest(DeskTest):
    def test_things_that_are_no_texts(self):
        desk = well_desk()
        before = state_of(desk)
        things = [thing for thing in other_kinds() if not isinstance(thing, str)] + [
            0, 1, GREAT, b"show a", bytearray(b"show a"), ["show a"], ("show a",), ["show", "a"], ("show", "a"),
            {"show": "a"}, {"show a"}, MIXED, desk, Desk, list("show a"),
        ]
        for thing in things:
            assert_refused(self, "NoRow", desk.say, thing)
        self.assertEqual(state_of(desk), before)

    def test_no_such_rows(self):
        desk = well_desk()
        rows = [
            "", " ", "\n", "\t", "a", "land", "cell", "drop", "long", "many", "way", "nth", "high", "show",
            "ok", "names", "names a", "undo a", "SHOW a", "Show a", "shows a", "sho a", "show a/", "/show a", "quit",
            "land a", "land", "land ", "land  ", "land  a 1/steps/jumps", " land a 1/steps/jumps", "Land a 1",
            "landa 1/steps/jumps", "land\ta 1/steps/jumps", "land a\t1/steps/jumps", "land a\n1/steps/jumps",
            "land\na 1/steps/jumps", "land a/1/steps/jumps", "lands a 1/steps/jumps", "lan a 1/steps/jumps",
        ]
        for row in rows:
            with self.subTest(row=row):
                self.assert_refused_and_nothing_changed("NoRow", desk, row)

    def test_names_that_are_none(self):
        desk = well_desk()
        for name in [
            "", "abcdefghi", "aaaaaaaaaaaaaaaa", "A", "aB", "Ab", "a1", "1a", "1", "a_b", "_", "a-b", "a.b", "a:b",
            "a/b", "a\n", "\na", "a\t", "/", "*", "~", "`", "{", "@", "[", "-", "'a'", "z{", "a`",
        ]:
            for row in WELL:
                first, _, rest = row.partition(" a")
                self.assert_refused_and_nothing_changed("NoRow", desk, first + " " + name + rest)

    def test_numbers_that_are_none(self):
        none = {
            "R": [
                "", "00", "01", "000", "100", "123", "-1", "-0", "+1", "a", "1a", "1.0", "1_0", "0x1", "\n", "1\n",
                "1\t",
            ],
            "N": ["", "00", "01", "1234567890", "1000000000", "0000000001", "-1", "-0", "+1", "a", "1_0", "1\n", "\t1"],
            "X": [
                "", "00", "01", "-01", "-00", "-0", "--1", "-", "1-", "+1", "+0", "1234567890", "-1234567890",
                "1000000000", "-1000000000", "0000000001", "a", "-a", "1.0", "1_0", "1\n", "\n", "1\t",
            ],
        }
        none["C"] = none["J"] = none["R"]
        rows = {
            "cell a R 0 0": "R", "cell a 0 C 0": "C", "cell a 0 0 X": "X", "long a J": "J", "many a J": "J",
            "way a J": "J", "nth a J 0": "J", "nth a 0 N": "N", "high a J 0 0": "J", "high a 0 R 0": "R",
            "high a 0 0 C": "C",
        }
        desk = well_desk()
        for row, letter in rows.items():
            for word in none[letter]:
                with self.subTest(row=row, word=word):
                    self.assert_refused_and_nothing_changed("NoRow", desk, row.replace(letter, word))

    def test_numbers_of_the_most_figures_are_let(self):
        desk = well_desk()
        told = {
            "cell a 0 0 999999999": None, "cell a 0 0 -999999999": None, "cell a 0 0 0": None, "long a 99": None,
            "long a 10": None, "many a 99": None, "way a 99": None, "nth a 99 0": None, "high a 99 0 0": None,
            "cell a 99 0 1": "NoCell", "cell a 10 0 1": "NoCell", "cell a 0 99 1": "NoCell", "cell a 0 10 1": "NoCell",
            "high a 0 99 0": "NoCell", "high a 0 0 99": "NoCell", "nth a 0 999999999": "NoNumber",
            "nth a 0 100000000": "NoNumber", "nth a 0 12345678": "NoNumber",
        }
        for row, name in told.items():
            if name is None:
                desk.say(row)
            else:
                self.assert_refused_and_nothing_changed(name, desk, row)

    def test_too_few_and_too_many_words(self):
        desk = well_desk()
        for row in WELL[1:]:
            words = row.split(" ")
            for many in range(len(words)):
                self.assert_refused_and_nothing_changed("NoRow", desk, " ".join(words[:many]))
            for more in ("0", "1", "a", "x y", "0 0 0"):
                self.assert_refused_and_nothing_changed("NoRow", desk, row + " " + more)

    def test_blanks_tabs_and_line_feeds(self):
        desk = well_desk()
        for row in WELL[1:]:
            for sign in (" ", "\n", "\t", "  "):
                self.assert_refused_and_nothing_changed("NoRow", desk, row + sign)
                self.assert_refused_and_nothing_changed("NoRow", desk, sign + row)
            for sign in ("  ", "\n", "\t", " \n", "\n ", ""):
                at = row.find(" ")
                while at >= 0:
                    self.assert_refused_and_nothing_changed("NoRow", desk, row[:at] + sign + row[at + 1:])
                    at = row.find(" ", at + 1)

    def test_two_rows_in_one(self):
        desk = well_desk()
        for sign in ("\n", " ", "/", ";", "\n\n"):
            self.assert_refused_and_nothing_changed("NoRow", desk, "show a" + sign + "show a")

    def test_one_sign_left_out_put_in_or_exchanged_at_each_place(self):
        for row in WELL[1:] + ("land b 1/steps/jumps", "nth a 9 123456789", "cell a 0 0 123456789"):
            desk = well_desk()
            by_hand = DeskByHand()
            for other in changed_at_each_place(row):
                for first in WELL[0], "land b 0/steps/jumps":
                    by_hand.say(first)
                self.assert_as_by_hand(desk, by_hand, other)
                for first in WELL[0], "land b 0/steps/jumps":
                    desk.say(first)


class NoNameTest(DeskTest):
    def test_an_empty_desk(self):
        desk = Desk()
        for row in WELL[1:]:
            assert_refused(self, "NoName", desk.say, row)
        self.assertEqual(desk.names(), [])

    def test_names_like_those_that_stand(self):
        desk = Desk()
        desk.say("land hill " + MIXED_TEXT)
        for name in ("hil", "hills", "h", "ill", "hilll", "abcdefgh"):
            for row in WELL[1:]:
                first, _, rest = row.partition(" a")
                self.assert_refused_and_nothing_changed("NoName", desk, first + " " + name + rest)


class NoTextTest(DeskTest):
    def test_texts_that_write_none(self):
        desk = well_desk()
        before = state_of(desk)
        for why, text in no_texts().items():
            # In a row / stands for a line feed, so there the one with / writes a land.
            if "/" not in text:
                with self.subTest(why=why):
                    for name in ("a", "new"):
                        assert_refused(self, "NoText", desk.say, "land " + name + " " + in_row(text))
        self.assertEqual(state_of(desk), before)

    def test_an_empty_text(self):
        desk = well_desk()
        self.assert_refused_and_nothing_changed("NoText", desk, "land a ")
        self.assert_refused_and_nothing_changed("NoText", desk, "land new ")
        self.assert_refused_and_nothing_changed("NoRow", desk, "land a")
        self.assert_refused_and_nothing_changed("NoRow", desk, "land new")

    def test_line_feeds(self):
        desk = well_desk()
        for text in (
            "1\nsteps\njumps", "1/steps\njumps", "1\nsteps/jumps", "1/steps/jumps\n", "\n1/steps/jumps", "\n", "\n\n",
            "1\n/steps/jumps", "1/2\n3/steps/jumps", "1/steps/\njumps",
        ):
            self.assert_refused_and_nothing_changed("NoText", desk, "land a " + text)
            self.assert_refused_and_nothing_changed("NoText", desk, "land new " + text)

    def test_blanks_and_tabs(self):
        desk = well_desk()
        for text in (
            " ", "  ", " 1/steps/jumps", "1/steps/jumps ", "1 /steps/jumps", "1/ steps/jumps", "1  2/steps/jumps",
            "1/steps/jumps  ", "\t", "1\t2/steps/jumps", "1/steps/jumps\t", "\t1/steps/jumps",
        ):
            self.assert_refused_and_nothing_changed("NoText", desk, "land a " + text)

    def test_one_sign_left_out_put_in_or_exchanged_at_each_place(self):
        desk = Desk()
        by_hand = DeskByHand()
        for other in changed_at_each_place("1 -2/steps 0:1/jumps"):
            self.assert_as_by_hand(desk, by_hand, "land a " + other)
            if "a" in by_hand.lands:
                self.assert_as_by_hand(desk, by_hand, "show a")


class OrderTest(DeskTest):
    def test_no_row_ahead_of_no_name(self):
        desk = well_desk()
        for row in (
            "cell x 00 0 1", "cell x 0 0 -0", "cell x 0 0", "drop x ", "drop x y", "long x", "long x 100", "many x a",
            "way x -1", "nth x 0 1234567890", "nth x 0", "high x 0 0", "high x 0 0 00", "show x x", "show x\n",
        ):
            self.assert_refused_and_nothing_changed("NoRow", desk, row)

    def test_no_row_ahead_of_no_text(self):
        desk = well_desk()
        for row in ("land A 1", "land  1", "land abcdefghi 1", "land a1 ", "land a", "land a\n1 ", "Land a 1", "land"):
            self.assert_refused_and_nothing_changed("NoRow", desk, row)

    def test_no_row_ahead_of_no_cell_and_no_number(self):
        desk = well_desk()
        for row in (
            "cell a 9 9 -0", "cell a 9 9 1234567890", "cell a 9 9", "cell a 9 09 1", "high a 00 9 9", "high a 0 9 09",
            "high a 9 9", "nth a 00 99", "nth a 0 099", "nth a 0 99 0",
        ):
            self.assert_refused_and_nothing_changed("NoRow", desk, row)

    def test_no_name_ahead_of_no_cell_and_no_number(self):
        desk = well_desk()
        for row in (
            "cell x 9 9 1", "cell x 99 99 -5", "high x 0 9 9", "high x 99 99 99", "nth x 0 99", "nth x 9 999999999",
        ):
            self.assert_refused_and_nothing_changed("NoName", desk, row)

    def test_no_text_also_by_a_name_that_does_not_stand(self):
        desk = well_desk()
        self.assert_refused_and_nothing_changed("NoText", desk, "land x 1")
        self.assert_refused_and_nothing_changed("NoText", desk, "land a 1")
        self.assertEqual(desk.names(), ["a", "b"])

    def test_as_the_stages_refuse(self):
        desk = well_desk()
        for row in ("cell a 2 0 1", "cell a 0 2 1", "cell a 9 9 1", "high a 0 2 0", "high a 0 0 2", "high a 99 99 99"):
            self.assert_refused_and_nothing_changed("NoCell", desk, row)
        many = int(desk.say("many a 0"))
        for number in (many, many + 1, 999999999):
            self.assert_refused_and_nothing_changed("NoNumber", desk, "nth a 0 %d" % number)


class ManyRowsTest(DeskTest):
    def draw_row(self, draw):
        name = draw.choice(["a", "b", "ab", "abcdefgh", "nine", "A", "abcdefghi", ""])
        word = draw.choice(["land", "land", "cell", "cell", "drop", "long", "many", "way", "nth", "high", "show", "up"])
        if word == "land":
            text = in_row(writing_by_hand(drawn_land(draw.randrange(200), 2, 3)))
            if draw.random() < 0.3:
                at = draw.randrange(len(text))
                text = text[:at] + draw.choice(SIGNS) + text[at + 1:]
            return "land " + name + " " + text
        letters = {"cell": "RCX", "nth": "JN", "high": "JRC", "drop": "", "show": "", "up": "J"}.get(word, "J")
        numbers = {
            "R": ["0", "0", "1", "1", "2", "00", "100"], "C": ["0", "0", "1", "1", "2", "3", "01"],
            "J": ["0", "1", "2", "9", "99", "100", "-1"], "N": ["0", "0", "1", "2", "5", "999999999", "00"],
            "X": ["0", "1", "-1", "5", "7", "-999999999", "-0", "1000000000"],
        }
        row = " ".join([word, name] + [draw.choice(numbers[letter]) for letter in letters])
        return row + draw.choice([""] * 30 + [" ", "\n", " 0"])

    def test_drawn_rows_against_a_desk_by_hand(self):
        for seed in range(12):
            draw = random.Random(seed)
            desk = Desk()
            by_hand = DeskByHand()
            for _ in range(250):
                self.assert_as_by_hand(desk, by_hand, self.draw_row(draw))
                self.assertEqual(desk.names(), sorted(by_hand.lands))
            for name in by_hand.lands:
                self.assert_as_by_hand(desk, by_hand, "show " + name)

    def test_more_than_sixty_changes(self):
        desk = well_desk()
        for number in range(100):
            desk.say("cell a 0 0 %d" % number)
            self.assertEqual(desk.say("show a"), "%d 2/4 3/steps 0:-1 0:1/jumps 1:0" % number)

    def test_twenty_lands_at_one_desk(self):
        desk = Desk()
        names = [chr(97 + (7 * at) % 20) * (1 + at % 8) for at in range(20)]
        for at, name in enumerate(names):
            self.assertEqual(desk.say("land %s %d/steps/jumps" % (name, at)), "ok")
        self.assertEqual(desk.names(), sorted(names))
        for at, name in enumerate(names):
            self.assertEqual(desk.say("show " + name), "%d/steps/jumps" % at)
        desk.say("cell %s 0 0 77" % names[3])
        desk.say("drop " + names[5])
        for at, name in enumerate(names):
            if at not in (3, 5):
                self.assertEqual(desk.say("show " + name), "%d/steps/jumps" % at)
        self.assertEqual(desk.names(), sorted(set(names) - {names[5]}))


class NamesTest(DeskTest):
    def test_in_the_order_of_letters(self):
        desk = Desk()
        self.assertEqual(desk.names(), [])
        for name in ("b", "ab", "a", "ba", "zz", "aa", "z", "abc", "abb"):
            desk.say("land " + name + " 1/steps/jumps")
        self.assertEqual(desk.names(), ["a", "aa", "ab", "abb", "abc", "b", "ba", "z", "zz"])

    def test_a_new_list_each_time(self):
        desk = well_desk()
        told = desk.names()
        assert_all_lists_unlike(self, told, desk.names(), desk.names(), Desk().names(), Desk().names())
        told.append("c")
        told.remove("a")
        self.assertEqual(desk.names(), ["a", "b"])
        self.assertEqual(desk.say("show a"), "1 2/4 3/steps 0:-1 0:1/jumps 1:0")
        assert_refused(self, "NoName", desk.say, "show c")

    def test_a_list_of_texts(self):
        told = well_desk().names()
        self.assertIs(told.__class__, list)
        self.assertEqual([name.__class__ for name in told], [str, str])

    def test_a_told_list_stays_when_lands_come_and_go(self):
        desk = well_desk()
        told = desk.names()
        desk.say("drop a")
        desk.say("land x 1/steps/jumps")
        self.assertEqual(told, ["a", "b"])
        self.assertEqual(desk.names(), ["b", "x"])

    def test_two_desks_stand_apart(self):
        one, other = well_desk(), well_desk()
        one.say("cell a 0 0 40")
        one.say("drop b")
        one.say("land c 3/steps/jumps")
        self.assertEqual(state_of(other), state_of(well_desk()))
        other.say("drop a")
        self.assertEqual(one.say("show a"), "40 2/4 3/steps 0:-1 0:1/jumps 1:0")
        self.assertEqual(one.names(), ["a", "c"])
        self.assertEqual(Desk().names(), [])

    def test_the_same_said_again(self):
        desk = well_desk()
        for row in WELL[3:]:
            self.assertEqual(desk.say(row), desk.say(row))

    def test_each_listed_method_stands_in_the_class(self):
        for name in ("say", "names"):
            self.assertIn(name, vars(Desk))


if __name__ == "__main__":
    unittest.main()
