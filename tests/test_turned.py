import copy
import unittest

from climbways.counted import count_longest, count_ways
from climbways.lands import is_land
from climbways.longest import greatest_length
from climbways.turned import laid_over, turned_about
from tests.helper import (
    CROSS, GREAT, JUMP_COUNTS, MIXED, all_moves, assert_all_lists_unlike, assert_refused, cells_by_hand, drawn_land,
    layered_land, let_by_hand, longest_by_hand, no_lands, other_kinds, small_lands, snake_land, thronged_land,
)

ASKERS = (turned_about, laid_over)

UNLIKE = ([[1, -2, 3], [0, GREAT, -GREAT]], [(-1, 2), (0, 1), (1, 0)], [(-1, -2), (0, -1), (2, -5)])


def oblong_lands():
    """Tables of one row, of one place, of one cell, and of unlike height and width, each with many moves."""
    lands = []
    for rows, places in ((1, 1), (1, 2), (2, 1), (1, 6), (6, 1), (2, 3), (3, 2), (6, 2), (2, 6), (6, 5), (5, 6)):
        table = [[(7 * row + 4 * place) % 11 - 5 for place in range(places)] for row in range(rows)]
        lands.append((table, [(-1, 0), (0, 1), (1, -2)], [(-2, 1), (0, -3), (2, 0), (3, 1)]))
    return lands


def great_lands():
    return [layered_land(), thronged_land(), snake_land(), snake_land(as_jumps=True)]


def over(cell):
    row, place = cell
    return (place, row)


class TurnedAboutTest(unittest.TestCase):
    def test_told_by_hand(self):
        self.assertEqual(turned_about(MIXED), ([[-1, -2, -3], [-4, -5, -6], [-7, -8, -9]], [(0, -1)], [(-1, 0)]))
        self.assertEqual(turned_about(UNLIKE), (
            [[-1, 2, -3], [0, -GREAT, GREAT]], [(-1, 0), (0, -1), (1, -2)], [(-2, 5), (0, 1), (1, 2)],
        ))
        self.assertEqual(turned_about(([[0]], [], [])), ([[0]], [], []))

    def test_each_number_step_and_jump(self):
        for land in small_lands() + oblong_lands() + great_lands():
            table, steps, jumps = turned_about(land)
            self.assertEqual((len(table), len(table[0])), (len(land[0]), len(land[0][0])))
            for row, place in cells_by_hand(land):
                self.assertEqual(table[row][place], -land[0][row][place])
            for told, old in ((steps, land[1]), (jumps, land[2])):
                self.assertEqual(told, sorted(told))
                self.assertEqual(set(told), {(-down, -right) for down, right in old})
                self.assertEqual(len(told), len(old))

    def test_ways_are_the_old_ones_backwards(self):
        for land in small_lands():
            about = turned_about(land)
            for j in (0, 1, 2, 40):
                backwards = sorted(way[::-1] for way in let_by_hand(land, j))
                self.assertEqual(let_by_hand(about, j), backwards)


class LaidOverTest(unittest.TestCase):
    def test_told_by_hand(self):
        self.assertEqual(laid_over(MIXED), ([[1, 4, 7], [2, 5, 8], [3, 6, 9]], [(1, 0)], [(0, 1)]))
        self.assertEqual(laid_over(UNLIKE), (
            [[1, 0], [-2, GREAT], [3, -GREAT]], [(0, 1), (1, 0), (2, -1)], [(-5, 2), (-2, -1), (-1, 0)],
        ))
        self.assertEqual(laid_over(([[1, 2, 3]], [(0, 1)], [])), ([[1], [2], [3]], [(1, 0)], []))
        self.assertEqual(laid_over(([[1], [2], [3]], [], [(1, 0)])), ([[1, 2, 3]], [], [(0, 1)]))
        self.assertEqual(laid_over(([[4]], CROSS, [])), ([[4]], CROSS, []))

    def test_each_number_step_and_jump(self):
        for land in small_lands() + oblong_lands() + great_lands():
            table, steps, jumps = laid_over(land)
            self.assertEqual((len(table), len(table[0])), (len(land[0][0]), len(land[0])))
            for row, place in cells_by_hand(land):
                self.assertEqual(table[place][row], land[0][row][place])
            for told, old in ((steps, land[1]), (jumps, land[2])):
                self.assertEqual(told, sorted(told))
                self.assertEqual(set(told), {(right, down) for down, right in old})
                self.assertEqual(len(told), len(old))

    def test_ways_have_rows_as_places(self):
        for land in small_lands():
            laid = laid_over(land)
            for j in (0, 1, 2, 40):
                other = sorted([over(cell) for cell in way] for way in let_by_hand(land, j))
                self.assertEqual(let_by_hand(laid, j), other)


class BothTest(unittest.TestCase):
    def test_both_are_lands(self):
        for land in small_lands() + oblong_lands() + great_lands() + [UNLIKE]:
            for ask in ASKERS:
                told = ask(land)
                self.assertIs(is_land(told), True)
                self.assertIs(told.__class__, tuple)
                self.assertEqual([part.__class__ for part in told], [list] * 3)
                self.assertEqual([row.__class__ for row in told[0]], [list] * len(told[0]))
                self.assertEqual({move.__class__ for move in told[1] + told[2]} - {tuple}, set())

    def test_twice_is_the_land(self):
        for land in small_lands() + oblong_lands() + great_lands() + [UNLIKE]:
            for ask in ASKERS:
                self.assertEqual(ask(ask(land)), land)
            self.assertEqual(turned_about(laid_over(land)), laid_over(turned_about(land)))

    def test_eight_moves_of_each_sort(self):
        for seed in range(40):
            land = drawn_land(seed, 6, 6, 5, 8)
            for ask in ASKERS:
                self.assertIs(is_land(ask(land)), True)
        every = all_moves(5)
        for at in range(0, len(every) - 16, 8):
            land = ([[1, 2], [3, 4], [5, 6]], every[at:at + 8], every[at + 8:at + 16])
            for ask in ASKERS:
                self.assertIs(is_land(ask(land)), True)
                self.assertEqual(ask(ask(land)), land)

    def test_as_long_and_as_many_on_small_lands(self):
        for land in small_lands():
            for j in (0, 1, 2, 40):
                longest = longest_by_hand(land, j)
                for ask in ASKERS:
                    self.assertEqual(greatest_length(ask(land), j), len(longest[0]))
                    self.assertEqual(count_longest(ask(land), j), len(longest))

    def test_as_long_and_as_many_on_great_lands(self):
        for land in oblong_lands() + great_lands():
            for j in JUMP_COUNTS:
                for ask in ASKERS:
                    told = ask(land)
                    self.assertEqual(greatest_length(told, j), greatest_length(land, j))
                    self.assertEqual(count_longest(told, j), count_longest(land, j))
                    for n in (1, 2, 3, 9):
                        self.assertEqual(count_ways(told, j, n), count_ways(land, j, n))

    def test_no_land(self):
        for ask in ASKERS:
            for why, thing in no_lands().items():
                with self.subTest(ask=ask, why=why):
                    assert_refused(self, "NoLand", ask, thing)
            for thing in other_kinds() + [0, 1, [[1]], "1\nsteps\njumps"]:
                assert_refused(self, "NoLand", ask, thing)

    def test_new_lists_throughout(self):
        for land in small_lands()[::10] + oblong_lands() + [([[4]], [], []), ([[0, 0]], [], [])]:
            assert_all_lists_unlike(self, land, *[ask(land) for ask in ASKERS for _ in range(2)])

    def test_the_land_stays_and_what_is_told_is_the_askers_own(self):
        for ask in ASKERS:
            land = copy.deepcopy(UNLIKE)
            told = ask(land)
            self.assertEqual(land, UNLIKE)
            again = ask(land)
            told[0][0][0] = 77
            told[0].pop()
            told[1].clear()
            told[2].append((5, 5))
            self.assertEqual(land, UNLIKE)
            self.assertEqual(ask(land), again)
            self.assertEqual(ask(again), UNLIKE)

    def test_nothing_is_kept(self):
        for ask in ASKERS:
            land = copy.deepcopy(MIXED)
            told = ask(land)
            kept = copy.deepcopy(told)
            land[0][1][1] = -50
            land[1].clear()
            self.assertEqual(told, kept)
            self.assertEqual(ask(ask(land)), land)


if __name__ == "__main__":
    unittest.main()
