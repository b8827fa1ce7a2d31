import copy
import random
import unittest

from climbways.heaviest import first_heaviest, greatest_weight
from climbways.longest import first_longest, greatest_length, is_way
from tests.helper import (
    CROSS, GREAT, JUMP_COUNTS, MIXED, SLANT, Watched, assert_all_lists_unlike, assert_refused,
    drawn_land, layered_land, let_by_hand, no_jump_counts, no_lands, no_sheets, other_kinds, small_lands, snake_land,
    snake_way, thronged_land,
)

ASKERS = (greatest_weight, first_heaviest)

ONES = [[1, 1, 1], [1, 1, 1], [1, 1, 1]]


def alike(land, number):
    return [[number] * len(row) for row in land[0]]


def drawn_weights(land, seed, least, most):
    draw = random.Random(seed)
    return [[draw.randint(least, most) for _ in row] for row in land[0]]


def weighings(land, seed):
    """Weights of either sign, below 0, of 0, alike and very great."""
    spans = [(-3, 3), (-1, 1), (-9, -1), (-2, 0), (0, 2), (1, 9), (-GREAT, GREAT), (GREAT - 2, GREAT), (-GREAT, -1)]
    drawn = [drawn_weights(land, seed, least, most) for least, most in spans]
    return drawn + [alike(land, number) for number in (0, 1, -1, GREAT, -GREAT)]


def weight_by_hand(way, weights):
    return sum(weights[row][place] for row, place in way)


class HeaviestTest(unittest.TestCase):
    def test_told_by_hand(self):
        weights = [[5, -1, 2], [-4, 3, 0], [1, 1, -7]]
        self.assertEqual(greatest_weight(MIXED, 0, weights), 6)
        self.assertEqual(first_heaviest(MIXED, 0, weights), [(0, 0), (0, 1), (0, 2)])
        self.assertEqual(greatest_weight(MIXED, 1, weights), 7)
        self.assertEqual(first_heaviest(MIXED, 1, weights), [(0, 0), (0, 1), (1, 1)])
        self.assertEqual(greatest_weight(MIXED, 2, weights), 8)
        self.assertEqual(first_heaviest(MIXED, 2, weights), [(0, 0), (0, 1), (1, 1), (2, 1)])

    def test_against_all_ways(self):
        for seed, land in enumerate(small_lands()):
            for j in (0, 1, 2, GREAT):
                let = let_by_hand(land, j)
                for weights in weighings(land, seed):
                    greatest = max(weight_by_hand(way, weights) for way in let)
                    first = min(way for way in let if weight_by_hand(way, weights) == greatest)
                    self.assertEqual(greatest_weight(land, j, weights), greatest, (land, j, weights))
                    self.assertEqual(first_heaviest(land, j, weights), first, (land, j, weights))

    def test_one_cell(self):
        land = ([[7]], [], [])
        for weight in (0, 1, -1, GREAT, -GREAT):
            for j in JUMP_COUNTS:
                self.assertEqual(greatest_weight(land, j, [[weight]]), weight)
                self.assertEqual(first_heaviest(land, j, [[weight]]), [(0, 0)])

    def test_all_below_0(self):
        # No way may be empty, so the heaviest is one cell.
        weights = [[-5, -2, -9], [-4, -2, -8], [-6, -7, -3]]
        for j in JUMP_COUNTS:
            self.assertEqual(greatest_weight(MIXED, j, weights), -2)
            self.assertEqual(first_heaviest(MIXED, j, weights), [(0, 1)])

    def test_all_0(self):
        for j in JUMP_COUNTS:
            self.assertEqual(greatest_weight(MIXED, j, alike(MIXED, 0)), 0)
            self.assertEqual(first_heaviest(MIXED, j, alike(MIXED, 0)), [(0, 0)])

    def test_all_alike_above_0_is_the_first_longest(self):
        for land in small_lands() + [snake_land(), layered_land()]:
            for j in (0, 1, GREAT):
                self.assertEqual(greatest_weight(land, j, alike(land, 7)), 7 * greatest_length(land, j))
                self.assertEqual(first_heaviest(land, j, alike(land, 7)), first_longest(land, j))

    def test_of_twenty_six_figures(self):
        weights = alike(snake_land(), GREAT)
        for j in JUMP_COUNTS:
            self.assertEqual(greatest_weight(snake_land(), j, weights), 36 * GREAT)
            self.assertEqual(first_heaviest(snake_land(), j, weights), snake_way())
        weights[0][1] = -GREAT
        self.assertEqual(greatest_weight(snake_land(), 0, weights), 34 * GREAT)

    def test_a_way_that_begins_another_is_ahead_of_it(self):
        land = ([[1, 2, 3, 4]], [(0, 1)], [])
        self.assertEqual(first_heaviest(land, 0, [[2, 0, 0, 0]]), [(0, 0)])
        self.assertEqual(first_heaviest(land, 0, [[2, 0, 1, 0]]), [(0, 0), (0, 1), (0, 2)])
        self.assertEqual(first_heaviest(land, 0, [[2, -1, 1, 0]]), [(0, 0)])
        self.assertEqual(first_heaviest(land, 0, [[2, -1, 1, 1]]), [(0, 0), (0, 1), (0, 2), (0, 3)])

    def test_a_beginning_that_weighs_nothing_is_ahead(self):
        land = ([[1, 2, 3, 4]], [(0, 1)], [])
        self.assertEqual(first_heaviest(land, 0, [[0, 0, 5, 0]]), [(0, 0), (0, 1), (0, 2)])
        self.assertEqual(first_heaviest(land, 0, [[-1, 1, 5, 0]]), [(0, 1), (0, 2)])
        self.assertEqual(first_heaviest(land, 0, [[1, -1, 5, 0]]), [(0, 0), (0, 1), (0, 2)])
        self.assertEqual(first_heaviest(land, 0, [[-1, 1, 0, -1]]), [(0, 1)])
        self.assertEqual(first_heaviest(land, 0, [[-1, 0, -1, -1]]), [(0, 1)])

    def test_the_first_of_several_that_part_midway(self):
        land = ([[1, 2], [2, 3]], [(0, 1), (1, 0)], [])
        self.assertEqual(first_heaviest(land, 0, [[1, 4], [4, 1]]), [(0, 0), (0, 1), (1, 1)])
        self.assertEqual(first_heaviest(land, 0, [[1, 3], [4, 1]]), [(0, 0), (1, 0), (1, 1)])
        self.assertEqual(first_heaviest(land, 0, [[1, 5], [4, 1]]), [(0, 0), (0, 1), (1, 1)])

    def test_the_first_may_go_by_a_jump_ahead_of_a_step(self):
        land = ([[1, 2], [2, 0]], [(1, 0)], [(0, 1)])
        self.assertEqual(first_heaviest(land, 0, [[1, 1], [1, 0]]), [(0, 0), (1, 0)])
        self.assertEqual(first_heaviest(land, 1, [[1, 1], [1, 0]]), [(0, 0), (0, 1)])

    def test_a_jump_is_kept_for_where_it_is_wanted(self):
        # One jump: into (0, 1) at once, or by the step down into (1, 0) and from there to the heavy (1, 1).
        land = ([[1, 4, 5], [2, 3, 0]], [(1, 0)], [(0, 1)])
        weights = [[1, 2, 9], [1, 5, 0]]
        self.assertEqual(first_heaviest(land, 0, weights), [(0, 2)])
        self.assertEqual(first_heaviest(land, 1, weights), [(0, 1), (0, 2)])
        self.assertEqual(first_heaviest(land, 2, weights), [(0, 0), (0, 1), (0, 2)])
        weights = [[1, 2, 3], [1, 5, 0]]
        self.assertEqual(first_heaviest(land, 1, weights), [(0, 0), (1, 0), (1, 1)])

    def test_the_heaviest_is_a_way_and_more_jumps_make_none_lighter(self):
        for seed in range(30):
            land = drawn_land(seed, 6, 6, 5, 8)
            weights = drawn_weights(land, seed, -9, 9)
            ahead = -GREAT
            for j in (0, 1, 2, 5, 36, GREAT):
                way = first_heaviest(land, j, weights)
                greatest = greatest_weight(land, j, weights)
                self.assertTrue(is_way(land, j, way), (land, j))
                self.assertEqual(weight_by_hand(way, weights), greatest, (land, j))
                self.assertGreaterEqual(greatest, ahead, (land, j))
                self.assertGreaterEqual(greatest, weight_by_hand(first_longest(land, j), weights), (land, j))
                ahead = greatest


class RefusedTest(unittest.TestCase):
    def test_no_land(self):
        for thing in list(no_lands().values()) + other_kinds():
            for ask in ASKERS:
                assert_refused(self, "NoLand", ask, thing, 0, [[1]])

    def test_no_weights(self):
        for land in [MIXED, ([[1]], [], []), ([[1, 2, 3]], CROSS, SLANT), ([[1], [2]], CROSS, SLANT), snake_land()]:
            for thing in no_sheets(len(land[0]), len(land[0][0])):
                for ask in ASKERS:
                    assert_refused(self, "NoWeights", ask, land, 0, thing)

    def test_rows_and_places_laid_over_are_no_weights(self):
        land = ([[1, 2, 3], [4, 5, 6]], [], [])
        for ask in ASKERS:
            assert_refused(self, "NoWeights", ask, land, 0, [[1, 1], [1, 1], [1, 1]])

    def test_no_number(self):
        for thing in no_jump_counts():
            for ask in ASKERS:
                assert_refused(self, "NoNumber", ask, MIXED, thing, ONES)

    def test_no_weights_ahead_of_no_number(self):
        for weights in no_sheets(3, 3):
            for j in (-1, True, None, "0", []):
                for ask in ASKERS:
                    assert_refused(self, "NoWeights", ask, MIXED, j, weights)

    def test_no_land_ahead_of_all(self):
        for land in [([[1, True]], [], []), None, [[[1]], [], []], ([[1]], [(0, 1)], [(0, 1)]), ([[]], [], [])]:
            for j in (0, -1, True, None):
                for weights in ([[1]], [[1, 1]], [[True]], [], None, "x", ((1,),)):
                    for ask in ASKERS:
                        assert_refused(self, "NoLand", ask, land, j, weights)


class OwnTest(unittest.TestCase):
    def setUp(self):
        self.land = copy.deepcopy(MIXED)
        self.weights = [[5, -1, 2], [-4, 3, 0], [1, 1, -7]]

    def test_what_is_handed_in_stays(self):
        kept = copy.deepcopy(self.weights)
        for j in JUMP_COUNTS:
            for ask in ASKERS:
                ask(self.land, j, self.weights)
        self.assertEqual(self.land, MIXED)
        self.assertEqual(self.weights, kept)

    def test_weights_may_be_the_table_itself(self):
        self.assertEqual(greatest_weight(self.land, 0, self.land[0]), 24)
        self.assertEqual(first_heaviest(self.land, 0, self.land[0]), [(2, 0), (2, 1), (2, 2)])
        row = [1, 2, 3]
        self.assertEqual(greatest_weight(self.land, 0, [row, row, row]), 6)
        self.assertEqual(self.land, MIXED)

    def test_a_told_way_is_the_askers_own(self):
        first = first_heaviest(self.land, 2, self.weights)
        kept = list(first)
        second = first_heaviest(self.land, 2, self.weights)
        assert_all_lists_unlike(self, first, second, self.land, self.weights)
        first.append(None)
        first[0] = (9, 9)
        self.assertEqual(second, kept)
        self.assertEqual(first_heaviest(self.land, 2, self.weights), kept)

    def test_kinds_that_are_told(self):
        self.assertIs(type(greatest_weight(self.land, 1, self.weights)), int)
        way = first_heaviest(self.land, 1, self.weights)
        self.assertIs(type(way), list)
        for cell in way:
            self.assertIs(type(cell), tuple)
            self.assertTrue(all(type(number) is int for number in cell))

    def test_nothing_is_kept(self):
        self.assertEqual(greatest_weight(self.land, 0, self.weights), 6)
        self.weights[0][2] = 0
        self.assertEqual(greatest_weight(self.land, 0, self.weights), 5)
        self.assertEqual(first_heaviest(self.land, 0, self.weights), [(0, 0)])
        self.weights[1][0] = 9
        self.assertEqual(greatest_weight(self.land, 0, self.weights), 12)
        self.land[0][1][1] = 0
        self.assertEqual(greatest_weight(self.land, 0, self.weights), 9)
        self.assertEqual(first_heaviest(self.land, 0, self.weights), [(1, 0)])

    def test_the_same_asked_again(self):
        for j in JUMP_COUNTS:
            for ask in ASKERS:
                told = ask(self.land, j, self.weights)
                self.assertEqual(ask(self.land, j, self.weights), told)
                self.assertEqual(ask(copy.deepcopy(self.land), j, copy.deepcopy(self.weights)), told)

    def test_a_cell_is_not_reckoned_anew_for_each_way(self):
        for land in (layered_land(Watched), thronged_land(Watched)):
            for weights in (alike(land, 1), alike(land, 0), drawn_weights(land, 1, -9, 9)):
                for j in (0, 3, GREAT):
                    for ask in ASKERS:
                        Watched.compared = 0
                        ask(land, j, weights)
        self.assertGreater(Watched.compared, 0)


if __name__ == "__main__":
    unittest.main()
