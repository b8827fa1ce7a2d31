import copy
import itertools
import unittest

from climbways.errors import NoCell, NoLand, NoNumber
from climbways.longest import all_heights, first_longest, greatest_length, height_of, is_way
from tests.helper import (
    CROSS, GREAT, JUMP_COUNTS, MIXED, RIGHT_AND_DOWN, SLANT, Watched, cells_by_hand, drawn_land, no_cells,
    no_jump_counts, no_lands, other_kinds, small_lands, snake_land, snake_way, thronged_land, ways_by_hand,
)

WHOLE_LAND_ASKERS = (all_heights, greatest_length, first_longest)


class IsWayTest(unittest.TestCase):
    def test_one_cell(self):
        for cell in cells_by_hand(MIXED):
            for j in JUMP_COUNTS:
                self.assertIs(is_way(MIXED, j, [cell]), True)
        self.assertIs(is_way(([[0]], [], []), 0, [(0, 0)]), True)

    def test_by_steps(self):
        self.assertIs(is_way(MIXED, 0, [(0, 0), (0, 1)]), True)
        self.assertIs(is_way(MIXED, 0, [(0, 0), (0, 1), (0, 2)]), True)
        self.assertIs(is_way(MIXED, 5, [(0, 0), (0, 1), (0, 2)]), True)

    def test_by_jumps(self):
        way = [(0, 0), (1, 0), (2, 0)]
        for j in JUMP_COUNTS:
            self.assertIs(is_way(MIXED, j, way), j >= 2)

    def test_by_both(self):
        way = [(0, 0), (0, 1), (1, 1), (1, 2), (2, 2)]
        for j in JUMP_COUNTS:
            self.assertIs(is_way(MIXED, j, way), j >= 2)

    def test_as_many_jumps_as_let_one_fewer_and_one_more(self):
        way = [(0, 1), (1, 1), (1, 2)]
        self.assertIs(is_way(MIXED, 0, way), False)
        self.assertIs(is_way(MIXED, 1, way), True)
        self.assertIs(is_way(MIXED, 2, way), True)

    def test_through_all_of_six_rows_of_six(self):
        self.assertIs(is_way(snake_land(), 0, snake_way()), True)
        self.assertIs(is_way(snake_land(as_jumps=True), 34, snake_way()), False)
        self.assertIs(is_way(snake_land(as_jumps=True), 35, snake_way()), True)
        self.assertIs(is_way(snake_land(as_jumps=True), 36, snake_way()), True)
        self.assertIs(is_way(snake_land(), 0, snake_way()[::-1]), False)

    def test_a_very_great_j(self):
        self.assertIs(is_way(MIXED, GREAT, [(0, 0), (1, 0), (1, 1)]), True)
        self.assertIs(is_way(MIXED, GREAT, [(0, 0), (1, 1)]), False)

    def test_lists_that_are_none(self):
        land = ([[1, 2, 2], [4, 5, 1], [7, 8, 9]], CROSS, SLANT)
        none = {
            "empty": [],
            "a cell twice at once": [(0, 0), (0, 0)],
            "a cell twice, apart": [(0, 0), (0, 1), (0, 0)],
            "beyond in the rows": [(2, 0), (3, 0)],
            "beyond in the places": [(2, 2), (2, 3)],
            "below 0": [(0, 0), (-1, 0)],
            "below 0, where a greater number would stand": [(0, 0), (0, -1)],
            "a first cell beyond": [(3, 3)],
            "a move that is none": [(0, 0), (2, 0)],
            "a move that is none, at the end": [(0, 0), (0, 1), (1, 1), (2, 0), (2, 2)],
            "a number that is alike": [(0, 1), (0, 2)],
            "a number that is smaller": [(0, 1), (0, 0)],
            "a number that is smaller, by a jump": [(1, 1), (0, 0)],
            "a cell that is a list": [[0, 0]],
            "a later cell that is a list": [(0, 0), [0, 1]],
            "a cell of one part": [(0,)],
            "a cell of three parts": [(0, 0, 0)],
            "a cell with a truth": [(0, False)],
            "a later cell with a truth": [(0, 0), (0, True)],
            "a cell that is None": [(0, 0), None],
            "a cell that is a text": ["00"],
        }
        for why, thing in none.items():
            for j in JUMP_COUNTS:
                with self.subTest(why=why, j=j):
                    self.assertIs(is_way(land, j, thing), False)

    def test_things_that_are_no_lists(self):
        for thing in other_kinds() + [0, 1, (0, 0), ((0, 0),), ((0, 0), (0, 1)), {(0, 0): True}, {(0, 0)}, "0:0"]:
            with self.subTest(thing=repr(thing)):
                self.assertIs(is_way(MIXED, 1, thing), False)
                self.assertIs(is_way(MIXED, 1, [thing, thing]), False)
                self.assertIs(is_way(MIXED, 1, [(0, 0), thing, thing]), False)

    def test_every_short_list_against_all_ways(self):
        for seed in range(25):
            land = drawn_land(seed, 2, 3)
            jumps_of = {tuple(way): jumps for way, jumps in ways_by_hand(land)}
            for length in range(1, 4):
                for cells in itertools.product(cells_by_hand(land), repeat=length):
                    for j in (0, 1, 2):
                        expected = cells in jumps_of and jumps_of[cells] <= j
                        self.assertIs(is_way(land, j, list(cells)), expected, (land, j, cells))

    def test_every_way_is_one(self):
        for land in small_lands():
            for way, jumps in ways_by_hand(land):
                self.assertIs(is_way(land, jumps, way), True, (land, jumps, way))
                if jumps > 0:
                    self.assertIs(is_way(land, jumps - 1, way), False, (land, jumps, way))


class HeightsTest(unittest.TestCase):
    def test_told_by_hand(self):
        self.assertEqual(all_heights(MIXED, 0), [[3, 2, 1]] * 3)
        self.assertEqual(all_heights(MIXED, 1), [[4, 3, 2], [4, 3, 2], [3, 2, 1]])
        self.assertEqual(all_heights(MIXED, 2), [[5, 4, 3], [4, 3, 2], [3, 2, 1]])
        self.assertEqual(all_heights(MIXED, 3), all_heights(MIXED, 2))
        self.assertEqual([greatest_length(MIXED, j) for j in range(4)], [3, 4, 5, 5])
        self.assertEqual(first_longest(MIXED, 0), [(0, 0), (0, 1), (0, 2)])
        self.assertEqual(first_longest(MIXED, 1), [(0, 0), (0, 1), (0, 2), (1, 2)])
        self.assertEqual(first_longest(MIXED, 2), [(0, 0), (0, 1), (0, 2), (1, 2), (2, 2)])

    def test_one_cell(self):
        land = ([[-7]], CROSS, SLANT)
        for j in JUMP_COUNTS:
            self.assertEqual(height_of(land, j, (0, 0)), 1)
            self.assertEqual(all_heights(land, j), [[1]])
            self.assertEqual(greatest_length(land, j), 1)
            self.assertEqual(first_longest(land, j), [(0, 0)])

    def test_no_moves_and_alike_numbers(self):
        for land in [([[1, 2], [3, 4]], [], []), ([[5, 5], [5, 5]], CROSS, SLANT)]:
            for j in JUMP_COUNTS:
                self.assertEqual(all_heights(land, j), [[1, 1], [1, 1]])
                self.assertEqual(first_longest(land, j), [(0, 0)])

    def test_against_all_ways(self):
        for land in small_lands():
            ways = ways_by_hand(land)
            for j in JUMP_COUNTS:
                let = [way for way, jumps in ways if jumps <= j]
                longest = max(len(way) for way in let)
                heights = [
                    [max(len(way) for way in let if way[0] == (row, place)) for place in range(len(land[0][0]))]
                    for row in range(len(land[0]))
                ]
                self.assertEqual(all_heights(land, j), heights, (land, j))
                for row, place in cells_by_hand(land):
                    self.assertEqual(height_of(land, j, (row, place)), heights[row][place], (land, j))
                self.assertEqual(greatest_length(land, j), longest, (land, j))
                self.assertEqual(first_longest(land, j), min(w for w in let if len(w) == longest), (land, j))

    def test_through_all_of_six_rows_of_six(self):
        for j in JUMP_COUNTS:
            self.assertEqual(greatest_length(snake_land(), j), 36)
            self.assertEqual(first_longest(snake_land(), j), snake_way())
            self.assertEqual(height_of(snake_land(), j, (5, 0)), 1)
            self.assertEqual(height_of(snake_land(), j, (0, 0)), 36)

    def test_as_many_jumps_as_a_way_can_have(self):
        land = snake_land(as_jumps=True)
        for j in (0, 1, 2, 17, 33, 34, 35, 36, 37, GREAT):
            length = min(j, 35) + 1
            self.assertEqual(greatest_length(land, j), length)
            self.assertEqual(height_of(land, j, (0, 0)), length)
            told = first_longest(land, j)
            self.assertEqual(len(told), length)
            self.assertTrue(is_way(land, j, told))
        self.assertEqual(first_longest(land, 35), snake_way())
        self.assertEqual(first_longest(land, GREAT), snake_way())

    def test_the_first_of_several_longest(self):
        land = ([[1, 2, 3], [2, 3, 4], [3, 4, 5]], RIGHT_AND_DOWN, [])
        self.assertEqual(first_longest(land, 0), [(0, 0), (0, 1), (0, 2), (1, 2), (2, 2)])
        land = ([[9, 1], [1, 9]], CROSS, [])
        self.assertEqual(first_longest(land, 0), [(0, 1), (0, 0)])

    def test_the_first_may_go_by_a_jump_ahead_of_a_step(self):
        # From (0, 0) both lead on as far; the jump leads to the cell that is first.
        land = ([[1, 2], [2, 0]], [(1, 0)], [(0, 1)])
        self.assertEqual(first_longest(land, 0), [(0, 0), (1, 0)])
        self.assertEqual(first_longest(land, 1), [(0, 0), (0, 1)])

    def test_the_first_does_not_spend_a_jump_that_is_wanted_later(self):
        # The jump to (0, 1) leads on only by a second jump; the step to (1, 0) leaves the one jump for (1, 1).
        land = ([[1, 4, 5], [2, 3, 0]], [(1, 0)], [(0, 1)])
        self.assertEqual(first_longest(land, 1), [(0, 0), (1, 0), (1, 1)])
        self.assertEqual(first_longest(land, 2), [(0, 0), (0, 1), (0, 2)])

    def test_the_longest_is_a_way_and_more_jumps_make_none_shorter(self):
        for seed in range(30):
            land = drawn_land(seed, 6, 6, 5, 8)
            ahead = None
            for j in (0, 1, 2, 5, 36, GREAT):
                heights = all_heights(land, j)
                told = first_longest(land, j)
                self.assertTrue(is_way(land, j, told), (land, j))
                self.assertEqual(len(told), greatest_length(land, j), (land, j))
                self.assertEqual(len(told), max(max(row) for row in heights), (land, j))
                self.assertEqual(len(told), height_of(land, j, told[0]), (land, j))
                if ahead is not None:
                    pairs = zip(sum(ahead, []), sum(heights, []))
                    self.assertTrue(all(fewer <= more for fewer, more in pairs), (land, j))
                ahead = heights

    def test_a_cell_is_not_reckoned_anew_for_each_way(self):
        land = thronged_land(Watched)
        for j in (0, 3, GREAT):
            for ask in WHOLE_LAND_ASKERS:
                with self.subTest(j=j, ask=ask.__name__):
                    Watched.compared = 0
                    ask(land, j)
            with self.subTest(j=j, ask="height_of"):
                Watched.compared = 0
                height_of(land, j, (0, 0))
        self.assertGreater(Watched.compared, 0)


class RefusedTest(unittest.TestCase):
    def test_no_land(self):
        for thing in list(no_lands().values()) + other_kinds():
            with self.subTest(thing=repr(thing)):
                for ask in WHOLE_LAND_ASKERS:
                    self.assertRaises(NoLand, ask, thing, 0)
                self.assertRaises(NoLand, height_of, thing, 0, (0, 0))
                self.assertRaises(NoLand, is_way, thing, 0, [(0, 0)])

    def test_no_number(self):
        for thing in no_jump_counts():
            with self.subTest(thing=repr(thing)):
                for ask in WHOLE_LAND_ASKERS:
                    self.assertRaises(NoNumber, ask, MIXED, thing)
                self.assertRaises(NoNumber, height_of, MIXED, thing, (0, 0))
                self.assertRaises(NoNumber, is_way, MIXED, thing, [(0, 0)])

    def test_no_number_also_where_the_way_is_none(self):
        for j in no_jump_counts():
            for thing in other_kinds():
                self.assertRaises(NoNumber, is_way, MIXED, j, thing)

    def test_no_cell(self):
        for land in [MIXED, ([[1]], [], []), snake_land()]:
            for thing in no_cells(land):
                with self.subTest(land=land, thing=repr(thing)):
                    self.assertRaises(NoCell, height_of, land, 0, thing)
                    self.assertRaises(NoCell, height_of, land, 2, thing)

    def test_no_cell_ahead_of_no_number(self):
        for thing in no_cells(MIXED):
            for j in (-1, True, None, "0", []):
                self.assertRaises(NoCell, height_of, MIXED, j, thing)

    def test_no_land_ahead_of_all(self):
        for land in [([[1, True]], [], []), None, [[[1]], [], []], ([[1]], [(0, 1)], [(0, 1)])]:
            for j in (0, -1, True, None):
                for ask in WHOLE_LAND_ASKERS:
                    self.assertRaises(NoLand, ask, land, j)
                for cell in ((0, 0), (9, 9), None, [0, 0]):
                    self.assertRaises(NoLand, height_of, land, j, cell)
                    self.assertRaises(NoLand, is_way, land, j, [cell])
                    self.assertRaises(NoLand, is_way, land, j, cell)


class OwnTest(unittest.TestCase):
    def setUp(self):
        self.land = copy.deepcopy(MIXED)

    def test_what_is_handed_in_stays(self):
        before = copy.deepcopy(self.land)
        way = [(0, 0), (0, 1), (1, 1)]
        kept = list(way)
        for j in JUMP_COUNTS:
            is_way(self.land, j, way)
            height_of(self.land, j, (0, 0))
            for ask in WHOLE_LAND_ASKERS:
                ask(self.land, j)
        self.assertEqual(self.land, before)
        self.assertEqual(way, kept)

    def test_heights_are_the_askers_own_row_by_row(self):
        for land in (self.land, ([[1, 1], [1, 1]], [], [])):
            first = all_heights(land, 1)
            kept = copy.deepcopy(first)
            second = all_heights(land, 1)
            lists = [first, second] + first + second + land[0]
            self.assertEqual(len({id(one) for one in lists}), len(lists))
            first[0][0] = 99
            self.assertEqual(first[1:], kept[1:])
            first[1].append(99)
            first.pop()
            self.assertEqual(second, kept)
            self.assertEqual(all_heights(land, 1), kept)

    def test_a_told_way_is_the_askers_own(self):
        first = first_longest(self.land, 1)
        kept = list(first)
        second = first_longest(self.land, 1)
        self.assertIsNot(first, second)
        first.append(None)
        first[0] = (9, 9)
        self.assertEqual(second, kept)
        self.assertEqual(first_longest(self.land, 1), kept)

    def test_kinds_that_are_told(self):
        self.assertIs(type(greatest_length(self.land, 1)), int)
        self.assertIs(type(height_of(self.land, 1, (0, 0))), int)
        heights = all_heights(self.land, 1)
        self.assertIs(type(heights), list)
        for row in heights:
            self.assertIs(type(row), list)
            self.assertTrue(all(type(number) is int for number in row))
        way = first_longest(self.land, 1)
        self.assertIs(type(way), list)
        for cell in way:
            self.assertIs(type(cell), tuple)
            self.assertTrue(all(type(number) is int for number in cell))

    def test_nothing_is_kept(self):
        self.assertEqual(greatest_length(self.land, 0), 3)
        self.land[0][0][1] = 0
        self.land[0][1][1] = 0
        self.land[0][2][1] = 0
        self.assertEqual(greatest_length(self.land, 0), 2)
        self.assertEqual(first_longest(self.land, 0), [(0, 1), (0, 2)])
        self.assertEqual(all_heights(self.land, 0), [[1, 2, 1]] * 3)
        self.land[1].pop()
        self.assertEqual(all_heights(self.land, 0), [[1, 1, 1]] * 3)

    def test_the_same_asked_again(self):
        for j in JUMP_COUNTS:
            for ask in WHOLE_LAND_ASKERS:
                self.assertEqual(ask(self.land, j), ask(self.land, j))
                self.assertEqual(ask(self.land, j), ask(copy.deepcopy(self.land), j))
            self.assertEqual(height_of(self.land, j, (0, 0)), height_of(self.land, j, (0, 0)))
            self.assertEqual(is_way(self.land, j, [(0, 0), (1, 0)]), is_way(self.land, j, [(0, 0), (1, 0)]))


if __name__ == "__main__":
    unittest.main()
