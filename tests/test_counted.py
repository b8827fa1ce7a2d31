import copy
import math
import unittest

from climbways.counted import count_from, count_longest, count_ways, number_of, way_by
from climbways.longest import first_longest, greatest_length, is_way
from tests.helper import (
    CROSS, GREAT, JUMP_COUNTS, MIXED, RIGHT_AND_DOWN, SLANT, Watched, assert_all_lists_unlike,
    assert_refused, cells_by_hand, drawn_land, layered_land, layered_way, let_by_hand, longest_by_hand, no_cells,
    no_jump_counts, no_lands, other_kinds, small_lands, snake_land, snake_way, thronged_land,
)

LAYERED_MANY = 3 ** 12


def layered_without_jumps():
    """How many of the layered ways go by steps alone: never from the border of a layer to that of the next."""
    border, inner = 1, 2
    for _ in range(11):
        border, inner = inner, 2 * (border + inner)
    return border + inner


def no_lengths():
    return other_kinds() + [0, -1, -2, -GREAT, "1", b"1", [1], (1,), {1: 1}]


def no_longest(land, j):
    """Lists of cells, and what looks like such, that are none of the longest ways of a land with at most j jumps."""
    way = longest_by_hand(land, j)[0]
    row, place = way[-1]
    return other_kinds() + [
        [], (), way[:-1], way[1:], way + way[-1:], way[:1] + way, way[::-1], tuple(way), [list(cell) for cell in way],
        way[:-1] + [[row, place]], way[:-1] + [(row,)], way[:-1] + [(row, place, 0)], way[:-1] + [None],
        way[:-1] + [(str(row), str(place))], way[:-1] + [(None, place)], way[:-1] + [way[0]], [way], (way,),
        way[:-1] + [(row + 6, place)], way[:-1] + [(row, place + 6)], way[:-1] + [(-1, place)],
        way[:-1] + [(row, -1)], way[:-1] + [(row - len(land[0]), place)], dict(enumerate(way)), str(way), 0, 1,
        {cell: True for cell in way}, set(way), [(GREAT, GREAT)] * len(way),
    ]


class CountTest(unittest.TestCase):
    def test_told_by_hand(self):
        # Without jumps each row is one; with two, right twice and down twice go in any of six orders.
        self.assertEqual([count_longest(MIXED, j) for j in (0, 1, 2, 3)], [3, 6, 6, 6])
        self.assertEqual([count_from(MIXED, 0, (row, 0)) for row in range(3)], [1, 1, 1])
        self.assertEqual([count_from(MIXED, 1, (row, 0)) for row in range(3)], [3, 3, 0])
        self.assertEqual([count_from(MIXED, 2, (row, 0)) for row in range(3)], [6, 0, 0])
        self.assertEqual([count_ways(MIXED, 0, n) for n in range(1, 6)], [9, 6, 3, 0, 0])
        self.assertEqual([count_ways(MIXED, GREAT, n) for n in range(1, 6)], [9, 12, 14, 12, 6])

    def test_one_cell(self):
        land = ([[7]], [], [])
        for j in JUMP_COUNTS:
            self.assertEqual(count_longest(land, j), 1)
            self.assertEqual(count_from(land, j, (0, 0)), 1)
            self.assertEqual([count_ways(land, j, n) for n in (1, 2, GREAT)], [1, 0, 0])

    def test_no_moves_and_alike_numbers(self):
        for land in [([[1, 2], [3, 4]], [], []), ([[5, 5], [5, 5]], CROSS, SLANT)]:
            for j in JUMP_COUNTS:
                self.assertEqual(count_longest(land, j), 4)
                self.assertEqual([count_from(land, j, cell) for cell in cells_by_hand(land)], [1, 1, 1, 1])
                self.assertEqual([count_ways(land, j, n) for n in (1, 2)], [4, 0])

    def test_against_all_ways(self):
        for land in small_lands():
            for j in JUMP_COUNTS:
                let = let_by_hand(land, j)
                longest = longest_by_hand(land, j)
                self.assertEqual(count_longest(land, j), len(longest), (land, j))
                for cell in cells_by_hand(land):
                    many = sum(1 for way in longest if way[0] == cell)
                    self.assertEqual(count_from(land, j, cell), many, (land, j, cell))
                for n in range(1, len(longest[0]) + 2):
                    many = sum(1 for way in let if len(way) == n)
                    self.assertEqual(count_ways(land, j, n), many, (land, j, n))

    def test_steps_here_and_jumps_there_make_one_way_each(self):
        # From corner to corner by a step and a jump in either order, and by the one long step.
        land = ([[1, 2], [3, 4]], [(0, 1), (1, 1)], [(1, 0)])
        self.assertEqual(longest_by_hand(land, 1), [[(0, 0), (0, 1), (1, 1)], [(0, 0), (1, 0), (1, 1)]])
        for j in (1, 2, GREAT):
            self.assertEqual(count_longest(land, j), 2)
            self.assertEqual(count_ways(land, j, 2), 5)
        self.assertEqual(count_longest(land, 0), 3)

    def test_jumps_that_are_let_but_not_gone_by_count_nothing_more(self):
        land = ([[1, 2, 3], [4, 5, 6], [7, 8, 9]], RIGHT_AND_DOWN, [])
        for j in JUMP_COUNTS:
            self.assertEqual(count_longest(land, j), 6)
            self.assertEqual([count_ways(land, j, n) for n in range(1, 7)], [9, 12, 14, 12, 6, 0])

    def test_a_cell_at_which_no_longest_way_begins(self):
        self.assertEqual(count_from(MIXED, 2, (0, 1)), 0)
        self.assertEqual(count_from(MIXED, 2, (2, 2)), 0)
        for cell in snake_way()[1:]:
            self.assertEqual(count_from(snake_land(), 0, cell), 0)
        self.assertEqual(count_from(snake_land(), 0, (0, 0)), 1)

    def test_n_of_one_of_the_greatest_length_one_more_and_very_great(self):
        for land in [MIXED, snake_land(), layered_land(), drawn_land(5, 6, 6, 5, 8)]:
            for j in (0, 2, GREAT):
                length = greatest_length(land, j)
                self.assertEqual(count_ways(land, j, 1), len(cells_by_hand(land)))
                self.assertEqual(count_ways(land, j, length), count_longest(land, j))
                for n in (length + 1, length + 2, 36 + length, GREAT):
                    self.assertEqual(count_ways(land, j, n), 0)

    def test_as_many_jumps_as_a_way_can_have(self):
        land = snake_land(as_jumps=True)
        # With one jump fewer than the whole way wants, its first or its last cell is left out.
        for j, many in ((0, 36), (34, 2), (35, 1), (36, 1), (37, 1), (GREAT, 1)):
            self.assertEqual(count_longest(land, j), many)
            self.assertEqual(count_ways(land, j, min(j, 35) + 1), many)
            self.assertEqual(count_ways(land, j, min(j, 35) + 2), 0)

    def test_six_rows_of_six_with_very_many_ways(self):
        land = layered_land()
        for j in (11, 12, 36, GREAT):
            self.assertEqual(count_longest(land, j), LAYERED_MANY)
            self.assertEqual([count_from(land, j, (0, place)) for place in range(6)], [3 ** 11] * 3 + [0] * 3)
        # Only one of them goes from border to border all the time.
        self.assertEqual(count_longest(land, 10), LAYERED_MANY - 1)
        self.assertEqual(count_from(land, 10, (0, 0)), 3 ** 11 - 1)
        self.assertEqual(count_longest(land, 0), layered_without_jumps())

    def test_six_rows_of_six_with_moves_of_all_lengths(self):
        table = [[6 * row + place for place in range(6)] for row in range(6)]
        along = [(0, right) for right in range(1, 6)]
        land = (table, sorted(along + [(1, 0), (2, 0), (3, 0)]), [(4, 0), (5, 0)])
        for n in range(1, 13):
            # So many moves right and the others down, in any order, over any choice of places and rows.
            many = sum(
                math.comb(n - 1, right) * math.comb(6, right + 1) * math.comb(6, n - right) for right in range(n)
            )
            self.assertEqual(count_ways(land, GREAT, n), many)
            self.assertEqual(count_ways(land, 1, n), many)

    def test_counts_from_all_cells_come_to_the_whole(self):
        for seed in range(20):
            land = drawn_land(seed, 6, 6, 5, 8)
            for j in (0, 1, 4, GREAT):
                whole = sum(count_from(land, j, cell) for cell in cells_by_hand(land))
                self.assertEqual(whole, count_longest(land, j), (land, j))
                self.assertEqual(whole, count_ways(land, j, greatest_length(land, j)), (land, j))


class NumberedTest(unittest.TestCase):
    def test_every_longest_way_of_small_lands_and_back(self):
        for land in small_lands():
            for j in (0, 1, 2, GREAT):
                longest = longest_by_hand(land, j)
                for number, way in enumerate(longest):
                    self.assertEqual(way_by(land, j, number), way, (land, j, number))
                    self.assertEqual(number_of(land, j, way), number, (land, j, way))

    def test_no_number_and_no_way_in_small_lands(self):
        for land in small_lands()[::4]:
            every = let_by_hand(land, GREAT)
            for j in (0, 1, GREAT):
                longest = longest_by_hand(land, j)
                for number in (-1, -len(longest), len(longest), len(longest) + 1, GREAT):
                    assert_refused(self, "NoNumber", way_by, land, j, number)
                for way in every:
                    if way not in longest:
                        assert_refused(self, "NoWay", number_of, land, j, way)

    def test_a_jump_may_stand_ahead_of_a_step_in_order(self):
        land = ([[0, 2, 4], [3, 1, 5]], [(1, -1), (1, 0), (1, 1)], [(-1, -1), (-1, 0), (-1, 1), (0, 1)])
        for j in JUMP_COUNTS:
            told = [way_by(land, j, number) for number in range(count_longest(land, j))]
            self.assertEqual(told, longest_by_hand(land, j))

    def test_the_first_is_the_first_longest(self):
        lands = [MIXED, snake_land(), layered_land()] + [drawn_land(seed, 6, 6, 5, 8) for seed in range(20)]
        for land in lands:
            for j in (0, 1, 2, GREAT):
                self.assertEqual(way_by(land, j, 0), first_longest(land, j), (land, j))
                self.assertEqual(number_of(land, j, first_longest(land, j)), 0, (land, j))

    def test_very_many_by_their_numbers_and_back(self):
        land = layered_land()
        for j in (11, GREAT):
            for number in list(range(0, LAYERED_MANY, 70001)) + [1, 2, 3, LAYERED_MANY - 2, LAYERED_MANY - 1]:
                self.assertEqual(way_by(land, j, number), layered_way(number))
                self.assertEqual(number_of(land, j, layered_way(number)), number)
            assert_refused(self, "NoNumber", way_by, land, j, LAYERED_MANY)

    def test_very_many_with_few_jumps(self):
        land = layered_land()
        for j in (0, 1, 5):
            many = count_longest(land, j)
            ahead = []
            for number in list(range(0, many, 20011)) + [many - 1]:
                way = way_by(land, j, number)
                self.assertTrue(is_way(land, j, way))
                self.assertEqual(len(way), 12)
                self.assertEqual(number_of(land, j, way), number)
                self.assertLess(ahead, way)
                ahead = way
            assert_refused(self, "NoNumber", way_by, land, j, many)

    def test_all_numbers_rise_with_their_ways(self):
        land = ([[row + place for place in range(6)] for row in range(6)], [(0, 1)], [(1, 0)])
        for j in (3, 5, GREAT):
            told = [way_by(land, j, number) for number in range(count_longest(land, j))]
            self.assertEqual(told, longest_by_hand(land, j))

    def test_no_number_of_other_kinds(self):
        for land in [MIXED, ([[1]], [], [])]:
            for thing in other_kinds() + ["0", b"0", [0], (0,), {0: 0}, -1, -GREAT, GREAT]:
                for j in (0, 1, GREAT):
                    assert_refused(self, "NoNumber", way_by, land, j, thing)

    def test_the_last_and_one_beyond(self):
        for j, many in ((0, 3), (1, 6), (2, 6), (GREAT, 6)):
            self.assertEqual(way_by(MIXED, j, many - 1), longest_by_hand(MIXED, j)[-1])
            assert_refused(self, "NoNumber", way_by, MIXED, j, many)

    def test_things_that_are_no_longest_way(self):
        for land in [MIXED, ([[1, 2], [3, 4]], RIGHT_AND_DOWN, SLANT)]:
            for j in JUMP_COUNTS:
                for thing in no_longest(land, j):
                    assert_refused(self, "NoWay", number_of, land, j, thing)

    def test_a_truth_in_a_cell(self):
        self.assertEqual(number_of(MIXED, 1, [(0, 0), (0, 1), (0, 2), (1, 2)]), 0)
        for way in (
            [(False, 0), (0, 1), (0, 2), (1, 2)], [(0, False), (0, 1), (0, 2), (1, 2)],
            [(0, 0), (0, True), (0, 2), (1, 2)], [(0, 0), (0, 1), (0, 2), (True, 2)],
        ):
            assert_refused(self, "NoWay", number_of, MIXED, 1, way)

    def test_a_way_too_short_too_long_or_with_too_many_jumps(self):
        # Each is a way, but none of the longest with so many jumps.
        assert_refused(self, "NoWay", number_of, MIXED, 0, [(0, 0), (0, 1)])
        assert_refused(self, "NoWay", number_of, MIXED, 0, [(0, 0), (0, 1), (0, 2), (1, 2)])
        assert_refused(self, "NoWay", number_of, MIXED, 0, [(0, 0), (1, 0), (1, 1)])
        assert_refused(self, "NoWay", number_of, MIXED, 1, [(0, 0), (1, 0), (2, 0), (2, 1)])
        assert_refused(self, "NoWay", number_of, MIXED, 2, [(0, 0), (0, 1), (0, 2), (1, 2)])
        # As long as the longest, but with a move that is none.
        assert_refused(self, "NoWay", number_of, MIXED, 0, [(0, 0), (0, 1), (1, 2)])
        assert_refused(self, "NoWay", number_of, MIXED, 0, [(0, 2), (0, 1), (0, 0)])


class RefusedTest(unittest.TestCase):
    def ask_all(self, name, land, j):
        assert_refused(self, name, count_longest, land, j)
        assert_refused(self, name, count_from, land, j, (0, 0))
        assert_refused(self, name, count_ways, land, j, 1)
        assert_refused(self, name, way_by, land, j, 0)
        assert_refused(self, name, number_of, land, j, [(0, 0)])

    def test_no_land(self):
        for thing in list(no_lands().values()) + other_kinds():
            self.ask_all("NoLand", thing, 0)

    def test_no_number_of_jumps(self):
        for thing in no_jump_counts():
            self.ask_all("NoNumber", MIXED, thing)

    def test_no_cell(self):
        for land in [MIXED, ([[1]], [], []), snake_land()]:
            for thing in no_cells(land):
                for j in (0, 2, -1, True, None, "0"):
                    assert_refused(self, "NoCell", count_from, land, j, thing)

    def test_no_length(self):
        for land in [MIXED, ([[1]], [], [])]:
            for thing in no_lengths():
                for j in (0, 1, GREAT, -1, True, None):
                    assert_refused(self, "NoNumber", count_ways, land, j, thing)

    def test_no_number_of_jumps_ahead_of_no_way(self):
        for j in no_jump_counts():
            for thing in ([(0, 0)], [], None, "way", [(9, 9)], True, {}):
                assert_refused(self, "NoNumber", number_of, MIXED, j, thing)
                assert_refused(self, "NoNumber", way_by, MIXED, j, thing)

    def test_no_land_ahead_of_all(self):
        for land in [([[1, True]], [], []), None, [[[1]], [], []], ([[1]], [(0, 1)], [(0, 1)]), ([[]], [], [])]:
            for j in (0, -1, True, None, "0"):
                self.ask_all("NoLand", land, j)
                for thing in (0, -1, True, None, (9, 9), [0, 0], [], "x"):
                    for ask in (count_from, count_ways, way_by, number_of):
                        assert_refused(self, "NoLand", ask, land, j, thing)


class OwnTest(unittest.TestCase):
    def setUp(self):
        self.land = copy.deepcopy(MIXED)

    def test_what_is_handed_in_stays(self):
        way = [(0, 0), (0, 1), (0, 2), (1, 2)]
        kept = list(way)
        for j in JUMP_COUNTS:
            count_longest(self.land, j)
            count_from(self.land, j, (0, 0))
            count_ways(self.land, j, 2)
            way_by(self.land, j, 1)
        number_of(self.land, 1, way)
        assert_refused(self, "NoWay", number_of, self.land, 0, way)
        self.assertEqual(self.land, MIXED)
        self.assertEqual(way, kept)

    def test_a_told_way_is_the_askers_own(self):
        first = way_by(self.land, 1, 2)
        kept = list(first)
        second = way_by(self.land, 1, 2)
        assert_all_lists_unlike(self, first, second, self.land)
        first.append(None)
        first[0] = (9, 9)
        self.assertEqual(second, kept)
        self.assertEqual(way_by(self.land, 1, 2), kept)
        self.assertEqual(number_of(self.land, 1, kept), 2)
        self.assertEqual(count_longest(self.land, 1), 6)

    def test_kinds_that_are_told(self):
        self.assertIs(type(count_longest(self.land, 1)), int)
        self.assertIs(type(count_from(self.land, 1, (0, 0))), int)
        self.assertIs(type(count_from(self.land, 1, (2, 2))), int)
        self.assertIs(type(count_ways(self.land, 1, 1)), int)
        self.assertIs(type(count_ways(self.land, 1, GREAT)), int)
        way = way_by(self.land, 1, 3)
        self.assertIs(type(way), list)
        for cell in way:
            self.assertIs(type(cell), tuple)
            self.assertTrue(all(type(number) is int for number in cell))
        self.assertIs(type(number_of(self.land, 1, way)), int)

    def test_nothing_is_kept(self):
        self.assertEqual(count_longest(self.land, 0), 3)
        self.assertEqual(way_by(self.land, 0, 2), [(2, 0), (2, 1), (2, 2)])
        self.land[0][0][1] = 0
        self.assertEqual(count_longest(self.land, 0), 2)
        self.assertEqual(count_from(self.land, 0, (0, 0)), 0)
        self.assertEqual(count_ways(self.land, 0, 2), 5)
        self.assertEqual(way_by(self.land, 0, 0), [(1, 0), (1, 1), (1, 2)])
        self.assertEqual(number_of(self.land, 0, [(2, 0), (2, 1), (2, 2)]), 1)

    def test_the_same_asked_again(self):
        other = copy.deepcopy(self.land)
        for j in JUMP_COUNTS:
            for land in (self.land, other):
                self.assertEqual(count_longest(self.land, j), count_longest(land, j))
                self.assertEqual(count_from(self.land, j, (0, 0)), count_from(land, j, (0, 0)))
                self.assertEqual(count_ways(self.land, j, 2), count_ways(land, j, 2))
                way = way_by(self.land, j, 1)
                self.assertEqual(way, way_by(land, j, 1))
                self.assertEqual(number_of(self.land, j, way), number_of(land, j, way))

    def test_a_cell_is_not_reckoned_anew_for_each_way(self):
        for land in (layered_land(Watched), thronged_land(Watched)):
            for j in (0, 3, GREAT):
                Watched.compared = 0
                many = count_longest(land, j)
                Watched.compared = 0
                count_from(land, j, (0, 0))
                for n in (2, 6, 12, 30):
                    Watched.compared = 0
                    count_ways(land, j, n)
                Watched.compared = 0
                way = way_by(land, j, many - 1)
                Watched.compared = 0
                self.assertEqual(number_of(land, j, way), many - 1)
        self.assertGreater(Watched.compared, 0)


if __name__ == "__main__":
    unittest.main()
