import copy
import unittest

from climbways.errors import NoCell, NoLand
from climbways.lands import is_land, jumps_from, number_at, steps_from
from tests.helper import (
    CROSS, GREAT, SLANT, all_moves, cells_by_hand, drawn_land, led_by_hand, no_cells, no_lands, other_kinds,
    small_lands, snake_land,
)

CELL_ASKERS = (number_at, steps_from, jumps_from)


class IsLandTest(unittest.TestCase):
    def test_each_number_of_rows_and_places(self):
        for rows in range(1, 7):
            for places in range(1, 7):
                with self.subTest(rows=rows, places=places):
                    self.assertIs(is_land(([[7] * places for _ in range(rows)], [], [])), True)

    def test_none_to_eight_steps_and_jumps(self):
        near = all_moves(1)
        far = [(5, right) for right in range(-5, 6)]
        for steps in range(9):
            for jumps in range(9):
                with self.subTest(steps=steps, jumps=jumps):
                    self.assertIs(is_land(([[1]], near[:steps], far[:jumps])), True)

    def test_moves_of_five(self):
        corners = [(-5, -5), (-5, 0), (-5, 5), (0, -5), (0, 5), (5, -5), (5, 0), (5, 5)]
        self.assertIs(is_land(([[1]], corners, [])), True)
        self.assertIs(is_land(([[1]], [], corners)), True)

    def test_moves_with_one_part_that_is_0(self):
        self.assertIs(is_land(([[1]], CROSS, SLANT)), True)

    def test_moves_alike_in_down_rise_by_right(self):
        self.assertIs(is_land(([[1]], [(1, -1), (1, 0), (1, 1)], [])), True)

    def test_numbers_below_0_and_of_twenty_six_figures(self):
        self.assertEqual(len(str(GREAT)), 26)
        self.assertIs(is_land(([[GREAT, -GREAT], [0, -1]], [], [])), True)

    def test_one_list_in_several_places(self):
        row = [1, 2]
        none = []
        self.assertIs(is_land(([row, row], none, none)), True)

    def test_what_is_none(self):
        for why, thing in no_lands().items():
            with self.subTest(why=why):
                self.assertIs(is_land(thing), False)

    def test_other_kinds(self):
        for thing in other_kinds():
            with self.subTest(thing=repr(thing)):
                self.assertIs(is_land(thing), False)
                self.assertIs(is_land((thing, [], [])), False)
                self.assertIs(is_land(([thing], [], [])), False)
                self.assertIs(is_land(([[thing]], [], [])), False)
                self.assertIs(is_land(([[1]], thing, [])), False)
                self.assertIs(is_land(([[1]], [], [thing])), False)


class CellsTest(unittest.TestCase):
    def test_told_by_hand(self):
        land = ([[3, 5, 5], [4, 1, 9], [2, 6, 5]], CROSS, SLANT)
        self.assertEqual(number_at(land, (0, 0)), 3)
        self.assertEqual(number_at(land, (1, 2)), 9)
        self.assertEqual(number_at(land, (2, 1)), 6)
        self.assertEqual(steps_from(land, (1, 1)), [(0, 1), (1, 0), (1, 2), (2, 1)])
        self.assertEqual(jumps_from(land, (1, 1)), [(0, 0), (0, 2), (2, 0), (2, 2)])
        self.assertEqual(steps_from(land, (0, 1)), [])
        self.assertEqual(jumps_from(land, (0, 1)), [(1, 2)])
        self.assertEqual(steps_from(land, (0, 2)), [(1, 2)])
        self.assertEqual(steps_from(land, (1, 2)), [])

    def test_alike_numbers_lead_nowhere(self):
        land = ([[5, 5], [5, 5]], CROSS, SLANT)
        for cell in cells_by_hand(land):
            self.assertEqual(steps_from(land, cell), [])
            self.assertEqual(jumps_from(land, cell), [])

    def test_greater_but_not_smaller(self):
        land = ([[-GREAT, 1 - GREAT], [GREAT, GREAT - 1]], [(0, -1), (0, 1)], [])
        self.assertEqual(steps_from(land, (0, 0)), [(0, 1)])
        self.assertEqual(steps_from(land, (0, 1)), [])
        self.assertEqual(steps_from(land, (1, 0)), [])
        self.assertEqual(steps_from(land, (1, 1)), [(1, 0)])

    def test_no_way_around_the_borders(self):
        land = ([[1, 2, 3], [4, 5, 6], [7, 8, 9]], [(-1, 0), (0, -1)], [(-5, -5), (-2, -2)])
        for cell in cells_by_hand(land):
            self.assertEqual(steps_from(land, cell), [])
            self.assertEqual(jumps_from(land, cell), [])

    def test_moves_of_five_lead_across(self):
        land = ([[6 * row + place for place in range(6)] for row in range(6)], [(5, -5), (5, 5)], [(0, 5), (5, 0)])
        self.assertEqual(steps_from(land, (0, 0)), [(5, 5)])
        self.assertEqual(steps_from(land, (0, 5)), [(5, 0)])
        self.assertEqual(jumps_from(land, (0, 0)), [(0, 5), (5, 0)])
        self.assertEqual(jumps_from(land, (1, 0)), [(1, 5)])

    def test_every_cell_against_a_look_at_all_cells(self):
        lands = small_lands() + [snake_land(), snake_land(as_jumps=True)]
        lands += [drawn_land(seed, 6, 6, 5, 8) for seed in range(60)]
        for land in lands:
            for cell in cells_by_hand(land):
                self.assertEqual(number_at(land, cell), land[0][cell[0]][cell[1]], (land, cell))
                self.assertEqual(steps_from(land, cell), led_by_hand(land, cell, land[1]), (land, cell))
                self.assertEqual(jumps_from(land, cell), led_by_hand(land, cell, land[2]), (land, cell))


class RefusedTest(unittest.TestCase):
    def test_no_land(self):
        for why, thing in no_lands().items():
            for ask in CELL_ASKERS:
                with self.subTest(why=why, ask=ask.__name__), self.assertRaises(NoLand):
                    ask(thing, (0, 0))

    def test_no_land_of_other_kinds(self):
        for thing in other_kinds():
            for ask in CELL_ASKERS:
                with self.subTest(thing=repr(thing), ask=ask.__name__), self.assertRaises(NoLand):
                    ask(thing, (0, 0))

    def test_no_cell(self):
        for land in [([[1]], [], []), ([[1, 2, 3], [4, 5, 6]], CROSS, SLANT), snake_land()]:
            for thing in no_cells(land):
                for ask in CELL_ASKERS:
                    with self.subTest(land=land, thing=repr(thing), ask=ask.__name__), self.assertRaises(NoCell):
                        ask(land, thing)

    def test_no_land_ahead_of_no_cell(self):
        land = ([[1, True]], [], [])
        for thing in no_cells(land):
            for ask in CELL_ASKERS:
                with self.subTest(thing=repr(thing), ask=ask.__name__), self.assertRaises(NoLand):
                    ask(land, thing)


class OwnTest(unittest.TestCase):
    def setUp(self):
        self.land = ([[1, 2, 3], [4, 5, 6]], [(0, 1), (1, 0)], [(0, 2), (1, 1)])

    def test_what_is_handed_in_stays(self):
        before = copy.deepcopy(self.land)
        is_land(self.land)
        for ask in CELL_ASKERS:
            for cell in cells_by_hand(self.land):
                ask(self.land, cell)
        self.assertEqual(self.land, before)

    def test_told_lists_are_the_askers_own(self):
        for ask in (steps_from, jumps_from):
            first = ask(self.land, (0, 0))
            kept = list(first)
            second = ask(self.land, (0, 0))
            self.assertIsNot(first, second)
            first.append("more")
            first[0] = None
            self.assertEqual(second, kept)
            self.assertEqual(ask(self.land, (0, 0)), kept)

    def test_an_empty_list_is_the_askers_own_too(self):
        for ask in (steps_from, jumps_from):
            ask(self.land, (1, 2)).append("more")
            self.assertEqual(ask(self.land, (1, 2)), [])
        self.assertEqual(self.land[1:], ([(0, 1), (1, 0)], [(0, 2), (1, 1)]))

    def test_kinds_that_are_told(self):
        self.assertIs(type(number_at(self.land, (0, 0))), int)
        for ask in (steps_from, jumps_from):
            led = ask(self.land, (0, 0))
            self.assertIs(type(led), list)
            for cell in led:
                self.assertIs(type(cell), tuple)

    def test_nothing_is_kept(self):
        self.assertEqual(steps_from(self.land, (0, 0)), [(0, 1), (1, 0)])
        self.land[0][0][1] = 0
        self.assertEqual(steps_from(self.land, (0, 0)), [(1, 0)])
        self.assertEqual(number_at(self.land, (0, 1)), 0)
        self.land[1].pop()
        self.assertEqual(steps_from(self.land, (0, 0)), [])
        self.land[2].pop()
        self.assertEqual(jumps_from(self.land, (0, 0)), [(0, 2)])

    def test_the_same_asked_again(self):
        for ask in CELL_ASKERS:
            for cell in cells_by_hand(self.land):
                self.assertEqual(ask(self.land, cell), ask(copy.deepcopy(self.land), cell))
                self.assertEqual(ask(self.land, cell), ask(self.land, cell))


if __name__ == "__main__":
    unittest.main()
