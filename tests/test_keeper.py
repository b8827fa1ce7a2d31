import copy
import random
import unittest

from climbways.counted import count_longest
from climbways.keeper import Keeper
from climbways.longest import greatest_length
from tests.helper import (
    CROSS, GREAT, JUMP_COUNTS, MIXED, RIGHT_AND_DOWN, SLANT, Watched, assert_all_lists_unlike, assert_refused,
    cells_by_hand, drawn_land, layered_land, longest_by_hand, no_cells, no_jump_counts, no_lands, other_kinds,
    small_lands, snake_land, thronged_land,
)

SOME_JUMPS = (0, 1, 2, 40)


def no_whole_numbers():
    return other_kinds() + ["0", "1", b"1", [0], [1], (0,), (1, 2), {1: 1}, MIXED]


def all_told(keeper):
    """All that a Keeper tells without being changed."""
    return (
        keeper.land(), keeper.changes(), [keeper.length(j) for j in SOME_JUMPS], [keeper.many(j) for j in SOME_JUMPS],
    )


def length_by_hand(land):
    return len(longest_by_hand(land, 0)[0])


def put(land, cell, number):
    """A land built anew, with this number in the cell."""
    table = [list(row) for row in land[0]]
    table[cell[0]][cell[1]] = number
    return (table, list(land[1]), list(land[2]))


def spoil(land):
    """Change all parts of a land, as an asker may."""
    land[0][0][0] = 99
    land[0][-1].append(5)
    land[0].append([1, 2, 3])
    land[1].clear()
    land[2].append((4, 4))


class KeeperTest(unittest.TestCase):
    def assert_as_anew(self, keeper, land, changes):
        """That a Keeper tells of a land what is told of it built anew, with all ways listed one by one."""
        self.assertEqual(keeper.land(), land)
        self.assertEqual(keeper.changes(), changes)
        for j in SOME_JUMPS:
            longest = longest_by_hand(land, j)
            self.assertEqual(keeper.length(j), len(longest[0]))
            self.assertEqual(keeper.many(j), len(longest))


class DeedsTest(KeeperTest):
    def test_told_by_hand(self):
        keeper = Keeper(([[1, 2, 3], [6, 5, 4]], [(0, -1), (0, 1), (1, 0)], [(-1, 2)]))
        self.assertEqual((keeper.length(0), keeper.many(0), keeper.changes()), (6, 1, 0))
        self.assertEqual(keeper.change((0, 1), 0), (6, 5))
        self.assertEqual(keeper.land(), ([[1, 0, 3], [6, 5, 4]], [(0, -1), (0, 1), (1, 0)], [(-1, 2)]))
        self.assertEqual((keeper.length(0), keeper.many(0), keeper.changes()), (5, 1, 1))
        self.assertEqual(keeper.change((1, 0), 2), (5, 4))
        self.assertEqual((keeper.length(0), keeper.many(0), keeper.changes()), (4, 2, 2))
        self.assertEqual((keeper.length(1), keeper.many(1)), (6, 1))
        self.assertEqual(keeper.undo(), (4, 5))
        self.assertEqual(keeper.changes(), 1)
        self.assertEqual(keeper.change((1, 1), 3), (5, 3))
        self.assertEqual(keeper.undo(), (3, 5))
        self.assertEqual(keeper.undo(), (5, 6))
        self.assertEqual(keeper.land(), ([[1, 2, 3], [6, 5, 4]], [(0, -1), (0, 1), (1, 0)], [(-1, 2)]))
        self.assertEqual(keeper.changes(), 0)

    def test_at_the_beginning(self):
        for land in small_lands():
            self.assert_as_anew(Keeper(land), land, 0)

    def test_each_change_of_one_cell(self):
        for land in small_lands()[::7]:
            for cell in cells_by_hand(land):
                for number in (-GREAT, -1, 0, 1, 2, GREAT):
                    keeper = Keeper(land)
                    other = put(land, cell, number)
                    lengths = (length_by_hand(land), length_by_hand(other))
                    self.assertEqual(keeper.change(cell, number), lengths)
                    self.assert_as_anew(keeper, other, 1)
                    self.assertEqual(keeper.undo(), lengths[::-1])
                    self.assert_as_anew(keeper, land, 0)

    def test_sixty_deeds_against_lands_built_anew(self):
        for seed in range(25):
            draw = random.Random(seed)
            land = drawn_land(seed)
            keeper = Keeper(land)
            stand = [land]
            for _ in range(60):
                before = length_by_hand(stand[-1])
                if len(stand) > 1 and draw.random() < 0.4:
                    stand.pop()
                    told = keeper.undo()
                else:
                    cell = draw.choice(cells_by_hand(land))
                    number = draw.choice([draw.randint(-6, 6), draw.randint(-6, 6), GREAT, -GREAT])
                    stand.append(put(stand[-1], cell, number))
                    told = keeper.change(cell, number)
                self.assertEqual(told, (before, length_by_hand(stand[-1])))
                self.assert_as_anew(keeper, stand[-1], len(stand) - 1)
            while len(stand) > 1:
                stand.pop()
                keeper.undo()
                self.assert_as_anew(keeper, stand[-1], len(stand) - 1)
            assert_refused(self, "NoNumber", keeper.undo)

    def test_thirty_changes_and_then_thirty_undoings(self):
        land = snake_land()
        keeper = Keeper(land)
        stand = [land]
        for at in range(30):
            cell = ((at * 5) % 6, (at * 7) % 6)
            stand.append(put(stand[-1], cell, (at * 11) % 37 - 3))
            before = greatest_length(stand[-2], 0)
            told = keeper.change(cell, (at * 11) % 37 - 3)
            self.assertEqual(told, (before, greatest_length(stand[-1], 0)))
            self.assertEqual(keeper.changes(), at + 1)
        for at in range(30, 0, -1):
            last = stand.pop()
            self.assertEqual(keeper.land(), last)
            self.assertEqual(keeper.undo(), (greatest_length(last, 0), greatest_length(stand[-1], 0)))
            self.assertEqual(keeper.changes(), at - 1)
        self.assertEqual(keeper.land(), snake_land())

    def test_jumps_do_not_count_in_what_a_change_tells(self):
        keeper = Keeper(([[1, 5, 3]], [], [(0, 1)]))
        self.assertEqual(keeper.change((0, 1), 2), (1, 1))
        self.assertEqual([keeper.length(j) for j in (0, 1, 2, 3)], [1, 2, 3, 3])
        self.assertEqual(keeper.undo(), (1, 1))
        self.assertEqual([keeper.length(j) for j in (0, 1, 2, 3)], [1, 2, 2, 2])

    def test_the_number_that_it_has_is_a_change(self):
        for land in [MIXED, ([[4]], [], []), snake_land()]:
            keeper = Keeper(land)
            length = greatest_length(land, 0)
            for at, (row, place) in enumerate(cells_by_hand(land)):
                self.assertEqual(keeper.change((row, place), land[0][row][place]), (length, length))
                self.assertEqual(keeper.changes(), at + 1)
                self.assertEqual(keeper.land(), land)
            for at in range(len(cells_by_hand(land)), 0, -1):
                self.assertEqual(keeper.undo(), (length, length))
                self.assertEqual(keeper.changes(), at - 1)
            assert_refused(self, "NoNumber", keeper.undo)
            self.assertEqual(keeper.land(), land)

    def test_the_same_number_among_others_is_undone_as_one(self):
        keeper = Keeper(([[1, 2, 3]], [(0, 1)], []))
        keeper.change((0, 0), 9)
        keeper.change((0, 0), 9)
        keeper.change((0, 2), 0)
        self.assertEqual(keeper.changes(), 3)
        self.assertEqual(keeper.undo(), (1, 2))
        self.assertEqual(keeper.undo(), (2, 2))
        self.assertEqual(keeper.land()[0], [[9, 2, 3]])
        self.assertEqual(keeper.undo(), (2, 3))
        self.assertEqual(keeper.land()[0], [[1, 2, 3]])

    def test_one_cell_changed_time_and_again(self):
        keeper = Keeper(([[0, 5]], [(0, 1)], []))
        for number in range(1, 11):
            now = 2 if number < 5 else 1
            self.assertEqual(keeper.change((0, 0), number), (2 if number < 6 else 1, now))
        for number in range(9, -1, -1):
            keeper.undo()
            self.assertEqual(keeper.land()[0], [[number, 5]])

    def test_a_change_behind_an_undoing(self):
        keeper = Keeper(MIXED)
        keeper.change((0, 0), 50)
        keeper.change((1, 1), 60)
        keeper.undo()
        keeper.change((2, 2), 70)
        self.assertEqual(keeper.land()[0], [[50, 2, 3], [4, 5, 6], [7, 8, 70]])
        keeper.undo()
        self.assertEqual(keeper.land()[0], [[50, 2, 3], [4, 5, 6], [7, 8, 9]])
        keeper.undo()
        self.assertEqual(keeper.land(), MIXED)

    def test_numbers_below_0_and_of_twenty_six_figures(self):
        keeper = Keeper(([[0, 0]], [(0, 1)], []))
        self.assertEqual(keeper.change((0, 0), -GREAT), (1, 2))
        self.assertEqual(keeper.change((0, 1), -GREAT), (2, 1))
        self.assertEqual(keeper.change((0, 1), 1 - GREAT), (1, 2))
        self.assertEqual(keeper.change((0, 0), GREAT), (2, 1))
        self.assertEqual(keeper.land()[0], [[GREAT, 1 - GREAT]])

    def test_the_keeper_of_a_great_land(self):
        for land in (layered_land(), thronged_land(), snake_land(as_jumps=True)):
            keeper = Keeper(land)
            keeper.change((2, 3), -4)
            other = put(land, (2, 3), -4)
            for j in JUMP_COUNTS:
                self.assertEqual(keeper.length(j), greatest_length(other, j))
                self.assertEqual(keeper.many(j), count_longest(other, j))

    def test_a_cell_is_not_reckoned_anew_for_each_way(self):
        Watched.compared = 0
        keeper = Keeper(thronged_land(Watched))
        keeper.change((5, 5), Watched(34))
        self.assertGreater(keeper.length(3), 1)
        self.assertGreater(keeper.many(3), 1)
        keeper.undo()
        self.assertLess(Watched.compared, Watched.most)


class RefusalsTest(KeeperTest):
    def test_no_land(self):
        for why, thing in no_lands().items():
            with self.subTest(why=why):
                assert_refused(self, "NoLand", Keeper, thing)
        for thing in other_kinds() + [0, 1, "1\nsteps\njumps", Keeper(MIXED)]:
            assert_refused(self, "NoLand", Keeper, thing)

    def test_no_cell(self):
        for land in (MIXED, ([[1, 2]], [], []), ([[1], [2]], [], []), snake_land()):
            keeper = Keeper(land)
            for cell in no_cells(land):
                assert_refused(self, "NoCell", keeper.change, cell, 5)
            self.assertEqual((keeper.land(), keeper.changes()), (land, 0))

    def test_no_number(self):
        keeper = Keeper(MIXED)
        for number in no_whole_numbers():
            for cell in cells_by_hand(MIXED):
                assert_refused(self, "NoNumber", keeper.change, cell, number)
        self.assertEqual((keeper.land(), keeper.changes()), (MIXED, 0))

    def test_no_cell_ahead_of_no_number(self):
        keeper = Keeper(MIXED)
        for number in no_whole_numbers():
            assert_refused(self, "NoCell", keeper.change, (3, 0), number)
        for cell in no_cells(MIXED):
            assert_refused(self, "NoCell", keeper.change, cell, None)
            assert_refused(self, "NoCell", keeper.change, cell, True)
        self.assertEqual((keeper.land(), keeper.changes()), (MIXED, 0))

    def test_truths_that_are_like_the_number(self):
        keeper = Keeper(([[0, 1]], [(0, 1)], []))
        for cell in ((0, 0), (0, 1)):
            for number in (True, False):
                assert_refused(self, "NoNumber", keeper.change, cell, number)
        self.assertEqual(keeper.changes(), 0)

    def test_undo_where_none_is_left(self):
        keeper = Keeper(MIXED)
        for _ in range(3):
            assert_refused(self, "NoNumber", keeper.undo)
        self.assert_as_anew(keeper, MIXED, 0)
        keeper.change((0, 0), 100)
        keeper.undo()
        for _ in range(3):
            assert_refused(self, "NoNumber", keeper.undo)
        self.assert_as_anew(keeper, MIXED, 0)
        keeper.change((0, 0), 100)
        self.assertEqual(keeper.changes(), 1)
        keeper.undo()
        self.assert_as_anew(keeper, MIXED, 0)

    def test_undo_where_all_changes_were_refused(self):
        keeper = Keeper(MIXED)
        assert_refused(self, "NoCell", keeper.change, (3, 3), 1)
        assert_refused(self, "NoNumber", keeper.change, (0, 0), "1")
        assert_refused(self, "NoNumber", keeper.undo)
        self.assertEqual(keeper.changes(), 0)

    def test_no_number_of_jumps(self):
        keeper = Keeper(MIXED)
        keeper.change((0, 0), 3)
        for j in no_jump_counts():
            assert_refused(self, "NoNumber", keeper.length, j)
            assert_refused(self, "NoNumber", keeper.many, j)

    def test_what_is_refused_changes_nothing(self):
        for seed in range(12):
            land = drawn_land(seed)
            keeper = Keeper(land)
            keeper.change((0, 0), 3)
            keeper.change((0, 0), -3)
            told = all_told(keeper)
            rows = len(land[0])
            refused = [
                ("NoCell", keeper.change, (rows, 0), 1), ("NoCell", keeper.change, (-1, 0), 1),
                ("NoCell", keeper.change, None, None), ("NoNumber", keeper.change, (0, 0), True),
                ("NoNumber", keeper.change, (0, 0), "5"), ("NoNumber", keeper.length, -1),
                ("NoNumber", keeper.many, None), ("NoNumber", keeper.length, True), ("NoNumber", keeper.many, -GREAT),
            ]
            for name, ask, *handed_in in refused:
                assert_refused(self, name, ask, *handed_in)
                self.assertEqual(all_told(keeper), told)
            self.assertEqual(keeper.undo()[0], told[2][0])
            keeper.undo()
            self.assert_as_anew(keeper, land, 0)


class OwnTest(KeeperTest):
    def test_the_handed_in_land_changed_afterwards(self):
        land = copy.deepcopy(MIXED)
        keeper = Keeper(land)
        spoil(land)
        self.assert_as_anew(keeper, MIXED, 0)
        keeper.change((1, 1), 0)
        keeper.undo()
        self.assert_as_anew(keeper, MIXED, 0)

    def test_the_handed_in_land_stays(self):
        for land in small_lands()[::10] + [MIXED, snake_land()]:
            before = copy.deepcopy(land)
            keeper = Keeper(land)
            keeper.change((0, 0), 88)
            keeper.length(1)
            keeper.many(1)
            self.assertEqual(land, before)
            keeper.undo()
            self.assertEqual(land, before)

    def test_the_told_land_changed_by_the_asker(self):
        keeper = Keeper(MIXED)
        spoil(keeper.land())
        self.assert_as_anew(keeper, MIXED, 0)
        keeper.change((1, 1), 0)
        spoil(keeper.land())
        self.assert_as_anew(keeper, put(MIXED, (1, 1), 0), 1)
        self.assertEqual(keeper.undo(), (3, 3))
        self.assert_as_anew(keeper, MIXED, 0)
        spoil(keeper.land())
        self.assert_as_anew(keeper, MIXED, 0)

    def test_a_land_told_earlier_stays_when_cells_change(self):
        keeper = Keeper(MIXED)
        first = keeper.land()
        keeper.change((0, 0), 44)
        second = keeper.land()
        self.assertEqual(first, MIXED)
        keeper.undo()
        self.assertEqual(second, put(MIXED, (0, 0), 44))
        self.assertEqual(first, MIXED)

    def test_no_two_told_lists_are_one(self):
        land = ([[1, 2], [3, 4]], [], [])
        keeper = Keeper(land)
        told = [land, keeper.land(), keeper.land()]
        keeper.change((0, 0), 7)
        told += [keeper.land(), keeper.land()]
        keeper.undo()
        told += [keeper.land(), keeper.land()]
        assert_all_lists_unlike(self, *told)

    def test_two_keepers_of_one_land_stand_apart(self):
        land = copy.deepcopy(MIXED)
        one = Keeper(land)
        other = Keeper(land)
        one.change((0, 0), 10)
        one.change((0, 1), 11)
        self.assert_as_anew(other, MIXED, 0)
        assert_refused(self, "NoNumber", other.undo)
        other.change((2, 2), -3)
        self.assert_as_anew(one, put(put(MIXED, (0, 0), 10), (0, 1), 11), 2)
        one.undo()
        self.assert_as_anew(other, put(MIXED, (2, 2), -3), 1)
        self.assertEqual(land, MIXED)

    def test_a_keeper_of_what_another_tells(self):
        one = Keeper(MIXED)
        other = Keeper(one.land())
        other.change((0, 0), 10)
        self.assert_as_anew(one, MIXED, 0)

    def test_kinds_that_are_told(self):
        keeper = Keeper(([[1, 2], [3, 4]], RIGHT_AND_DOWN, SLANT))
        for told in (keeper.change((0, 0), 2), keeper.undo()):
            self.assertIs(told.__class__, tuple)
            self.assertEqual([part.__class__ for part in told], [int, int])
        for told in (keeper.length(0), keeper.many(0), keeper.changes()):
            self.assertIs(told.__class__, int)
        land = keeper.land()
        self.assertIs(land.__class__, tuple)
        self.assertEqual([part.__class__ for part in land], [list] * 3)
        self.assertEqual([row.__class__ for row in land[0]], [list] * 2)
        self.assertEqual({move.__class__ for move in land[1] + land[2]}, {tuple})

    def test_the_same_asked_again(self):
        keeper = Keeper(([[3, 1, 2], [5, 4, 9]], CROSS, SLANT))
        keeper.change((0, 2), 6)
        self.assertEqual(all_told(keeper), all_told(keeper))

    def test_each_listed_method_stands_in_the_class(self):
        for name in ("change", "undo", "land", "length", "many", "changes"):
            self.assertIn(name, vars(Keeper))


if __name__ == "__main__":
    unittest.main()
