import copy
import unittest

from climbways.texts import read_land, show_land
from tests.helper import (
    CROSS, GREAT, MIXED, SLANT, all_moves, assert_all_lists_unlike, assert_refused, changed_at_each_place,
    drawn_land, layered_land, no_lands, no_texts, other_kinds, read_by_hand, small_lands, snake_land, thronged_land,
    writing_by_hand,
)

# Lands, each with its writing, sign by sign.
WRITTEN = {
    "one cell": (([[0]], [], []), "0\nsteps\njumps"),
    "one row": (([[1, 2, 3]], [(0, 1)], [(0, 2)]), "1 2 3\nsteps 0:1\njumps 0:2"),
    "one place": (([[1], [2], [3]], [(1, 0)], [(2, 0)]), "1\n2\n3\nsteps 1:0\njumps 2:0"),
    "no steps": (([[1, 2]], [], [(0, 1)]), "1 2\nsteps\njumps 0:1"),
    "no jumps": (([[1, 2]], [(0, 1)], []), "1 2\nsteps 0:1\njumps"),
    "neither": (([[1, 2], [3, 4]], [], []), "1 2\n3 4\nsteps\njumps"),
    "both": (MIXED, "1 2 3\n4 5 6\n7 8 9\nsteps 0:1\njumps 1:0"),
    "numbers below 0": (([[-1, -20], [-300, 0]], [], []), "-1 -20\n-300 0\nsteps\njumps"),
    "zeros": (([[0, 0, 100], [0, 10, 1000]], [], []), "0 0 100\n0 10 1000\nsteps\njumps"),
    "moves below 0": (
        ([[5]], CROSS, SLANT), "5\nsteps -1:0 0:-1 0:1 1:0\njumps -1:-1 -1:1 1:-1 1:1",
    ),
    "farthest moves": (([[5]], [(-5, -5)], [(5, 5)]), "5\nsteps -5:-5\njumps 5:5"),
    "twenty-six figures": (
        ([[GREAT, -GREAT, 10 ** 25]], [], []),
        "99999999999999999999999999 -99999999999999999999999999 10000000000000000000000000\nsteps\njumps",
    ),
    "zeros within": (
        ([[10 ** 9, 10 ** 9 - 1, 10 ** 9 + 1], [10 ** 18, 10 ** 18 + 10 ** 8, -(10 ** 18) - 7]], [], []),
        "1000000000 999999999 1000000001\n1000000000000000000 1000000000100000000 -1000000000000000007\nsteps\njumps",
    ),
    "six rows of six": (
        snake_land(),
        "0 1 2 3 4 5\n11 10 9 8 7 6\n12 13 14 15 16 17\n23 22 21 20 19 18\n24 25 26 27 28 29\n35 34 33 32 31 30\n"
        "steps 0:-1 0:1 1:0\njumps",
    ),
    "eight steps and eight jumps": (
        ([[1]], all_moves(1), [(2, right) for right in range(-3, 5)]),
        "1\nsteps -1:-1 -1:0 -1:1 0:-1 0:1 1:-1 1:0 1:1\njumps 2:-3 2:-2 2:-1 2:0 2:1 2:2 2:3 2:4",
    ),
}


def widest_land():
    """Six rows of six numbers of twenty-six figures below 0, with sixteen moves."""
    moves = [move for move in all_moves(5) if move < (0, 0)]
    return ([[place - GREAT for place in range(6)] for _ in range(6)], moves[:8], moves[8:16])


def many_lands():
    lands = [land for land, _ in WRITTEN.values()] + small_lands() + [layered_land(), thronged_land(), widest_land()]
    return lands + [drawn_land(seed, 6, 6, 5, 8) for seed in range(300)]


class ShowTest(unittest.TestCase):
    def test_sign_by_sign(self):
        for why, (land, text) in WRITTEN.items():
            with self.subTest(why=why):
                self.assertEqual(show_land(land), text)

    def test_many_lands(self):
        for land in many_lands():
            self.assertEqual(show_land(land), writing_by_hand(land))

    def test_it_is_a_text(self):
        self.assertIs(show_land(MIXED).__class__, str)

    def test_numbers_around_each_length(self):
        for figures in list(range(1, 40)) + [100, 999, 1000]:
            for number in (10 ** figures - 1, 10 ** figures, 10 ** figures + 1):
                with self.subTest(number=number):
                    land = ([[number, -number]], [], [])
                    self.assertEqual(show_land(land), "%d -%d\nsteps\njumps" % (number, number))

    def test_what_is_no_land_is_not_written(self):
        for why, thing in no_lands().items():
            with self.subTest(why=why):
                assert_refused(self, "NoLand", show_land, thing)
        for thing in other_kinds() + [0, 1, "1\nsteps\njumps"]:
            assert_refused(self, "NoLand", show_land, thing)

    def test_the_land_stays(self):
        for land in small_lands()[::10]:
            before = copy.deepcopy(land)
            text = show_land(land)
            self.assertEqual(land, before)
            self.assertEqual(show_land(land), text)

    def test_nothing_is_kept(self):
        land = copy.deepcopy(MIXED)
        show_land(land)
        land[0][0][0] = -8
        land[1].clear()
        self.assertEqual(show_land(land), "-8 2 3\n4 5 6\n7 8 9\nsteps\njumps 1:0")


class ReadTest(unittest.TestCase):
    def assert_of_told_kinds(self, land):
        table, steps, jumps = land
        self.assertIs(land.__class__, tuple)
        for told in [table, steps, jumps] + table:
            self.assertIs(told.__class__, list)
        for move in steps + jumps:
            self.assertIs(move.__class__, tuple)
        for number in [number for row in table + steps + jumps for number in row]:
            self.assertIs(number.__class__, int)

    def test_sign_by_sign(self):
        for why, (land, text) in WRITTEN.items():
            with self.subTest(why=why):
                self.assertEqual(read_land(text), land)
                self.assert_of_told_kinds(read_land(text))

    def test_the_very_land_is_read_back(self):
        for land in many_lands():
            text = show_land(land)
            back = read_land(text)
            self.assertEqual(back, land)
            self.assert_of_told_kinds(back)
            self.assertEqual(show_land(back), text)

    def test_the_longest_text_within_what_is_promised(self):
        text = show_land(widest_land())
        self.assertLessEqual(len(text), 1120)
        self.assertEqual(read_land(text), widest_land())

    def test_numbers_of_more_figures_in_a_text(self):
        for figures in (27, 28, 100, 640, 641, 1000, 1100):
            for number in (10 ** figures - 1, 1 - 10 ** figures, 10 ** (figures - 1)):
                with self.subTest(number=number):
                    text = "%d\nsteps\njumps" % number
                    self.assertEqual(read_land(text), ([[number]], [], []))
                    self.assertEqual(show_land(read_land(text)), text)

    def test_a_number_beyond_what_python_writes_at_once(self):
        text = "-1" + "0123456789" * 500 + "\nsteps\njumps"
        self.assertEqual(show_land(read_land(text)), text)

    def test_a_told_land_is_the_askers_own(self):
        first = read_land(WRITTEN["both"][1])
        second = read_land(WRITTEN["both"][1])
        assert_all_lists_unlike(self, first, second)
        first[0][0][0] = 100
        first[0].pop()
        first[1].clear()
        first[2].append((1, 1))
        self.assertEqual(second, MIXED)
        self.assertEqual(read_land(WRITTEN["both"][1]), MIXED)

    def test_empty_lists_are_not_one(self):
        assert_all_lists_unlike(self, read_land("0\nsteps\njumps"), read_land("0\nsteps\njumps"))

    def test_each_edge(self):
        for text in [
            "1\n2\n3\n4\n5\n6\nsteps\njumps",
            "1 2 3 4 5 6\nsteps\njumps",
            "1\nsteps -5:5\njumps 5:-5",
            "1\nsteps -1:-1 -1:0 -1:1 0:-1 0:1 1:-1 1:0 1:1\njumps",
            "1\nsteps 0:1 1:-5\njumps 0:-5 0:2",
        ]:
            with self.subTest(text=text):
                self.assertEqual(writing_by_hand(read_land(text)), text)


class NoTextTest(unittest.TestCase):
    def test_what_writes_none(self):
        for why, text in no_texts().items():
            with self.subTest(why=why):
                self.assertIsNone(read_by_hand(text))
                assert_refused(self, "NoText", read_land, text)

    def test_one_sign_left_out_put_in_or_exchanged_at_each_place(self):
        for text in ["0 -5\n10 7\nsteps -1:1 0:1\njumps 1:0", "3\nsteps\njumps", "-12\n0\nsteps 0:-5\njumps 0:5 5:-1"]:
            let = 0
            for other in changed_at_each_place(text):
                land = read_by_hand(other)
                if land is None:
                    assert_refused(self, "NoText", read_land, other)
                else:
                    self.assertEqual(read_land(other), land, other)
                    let += 1
            self.assertGreater(let, 10)

    def test_two_rows_exchanged(self):
        rows = "1 2\n3 4\nsteps 0:1\njumps 1:0".split("\n")
        for at in range(4):
            for other in range(at):
                if (at, other) != (1, 0):
                    mixed = list(rows)
                    mixed[at], mixed[other] = mixed[other], mixed[at]
                    assert_refused(self, "NoText", read_land, "\n".join(mixed))

    def test_a_text_that_goes_on_or_ends_too_soon(self):
        text = "11 12\nsteps 0:1\njumps 1:0"
        # One beginning alone writes a land: that without jumps.
        short = [text[:at] for at in range(len(text)) if text[:at] != "11 12\nsteps 0:1\njumps"]
        self.assertEqual(len(short), len(text) - 1)
        for other in short:
            assert_refused(self, "NoText", read_land, other)
        for more in (" ", "\n", "\t", ":", "x", "\n\n", "\nsteps", "\njumps", " 1", " 1:", "\n" + text, text):
            assert_refused(self, "NoText", read_land, text + more)

    def test_things_that_are_no_texts(self):
        text = "1\nsteps\njumps"
        things = other_kinds() + [
            0, 1, -1, GREAT, [], [text], (text,), {text: text}, {text}, text.encode(), bytearray(text.encode()),
            text.split("\n"), list(text), tuple(text), MIXED, list(MIXED), [[1]], ([[1]], [], []), Exception(text),
        ]
        for thing in things:
            assert_refused(self, "NoText", read_land, thing)

    def test_a_refusal_leaves_nothing(self):
        for text in no_texts().values():
            assert_refused(self, "NoText", read_land, text)
            assert_refused(self, "NoText", read_land, text)
        self.assertEqual(read_land(WRITTEN["both"][1]), MIXED)


if __name__ == "__main__":
    unittest.main()
