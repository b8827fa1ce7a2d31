"""What all modules tell together, on small lands with all ways listed one by one, also while cells change."""

import copy
import random
import unittest

from climbways.counted import count_from, count_longest, count_ways, number_of, way_by
from climbways.desk import Desk
from climbways.heaviest import first_heaviest, greatest_weight
from climbways.heights import height_paper, jump_paper, jump_paper_shows, paper_shows
from climbways.keeper import Keeper
from climbways.lands import is_land, jumps_from, number_at, steps_from
from climbways.longest import all_heights, first_longest, greatest_length, height_of, is_way
from climbways.texts import read_land, show_land
from climbways.turned import laid_over, turned_about
from tests.helper import (
    MIXED, REFUSALS, assert_all_lists_unlike, assert_refused, cells_by_hand, drawn_land, in_row, led_by_hand,
    let_by_hand, no_lands, other_kinds, small_lands, way_writing_by_hand, writing_by_hand,
)

SOME_JUMPS = (0, 1, 2, 4)

# Each asker of a land with arguments that are all refused too, but behind the land.
ASKERS = (
    (number_at, None), (steps_from, None), (jumps_from, None), (is_way, None, None), (height_of, None, None),
    (all_heights, None), (greatest_length, None), (first_longest, None), (count_longest, None),
    (count_from, None, None), (count_ways, None, None), (way_by, None, None), (number_of, None, None),
    (greatest_weight, None, None), (first_heaviest, None, None), (height_paper,), (paper_shows, None, None),
    (jump_paper, None), (jump_paper_shows, None, None, None), (Keeper,), (turned_about,), (laid_over,), (show_land,),
)


def weigh(way, weights):
    return sum(weights[row][place] for row, place in way)


class WholeTest(unittest.TestCase):
    def assert_longest(self, land, j):
        let = let_by_hand(land, j)
        length = max(len(way) for way in let)
        longest = [way for way in let if len(way) == length]
        self.assertEqual(greatest_length(land, j), length)
        self.assertEqual(first_longest(land, j), longest[0])
        self.assertEqual(count_longest(land, j), len(longest))
        self.assertEqual([way_by(land, j, number) for number in range(len(longest))], longest)
        self.assertEqual([number_of(land, j, way) for way in longest], list(range(len(longest))))
        assert_refused(self, "NoNumber", way_by, land, j, len(longest))
        for way in let:
            self.assertIs(is_way(land, j, way), True)
            if len(way) < length:
                assert_refused(self, "NoWay", number_of, land, j, way)
        self.assertEqual([count_ways(land, j, n) for n in range(1, length + 2)], [
            sum(len(way) == n for way in let) for n in range(1, length + 2)
        ])

    def assert_heights(self, land, j):
        let = let_by_hand(land, j)
        length = max(len(way) for way in let)
        heights = all_heights(land, j)
        for row, place in cells_by_hand(land):
            height = max(len(way) for way in let if way[0] == (row, place))
            self.assertEqual(heights[row][place], height)
            self.assertEqual(height_of(land, j, (row, place)), height)
            many = sum(len(way) == length for way in let if way[0] == (row, place))
            self.assertEqual(count_from(land, j, (row, place)), many)
        self.assertEqual(max(max(row) for row in heights), length)
        paper = jump_paper(land, j)
        self.assertIs(jump_paper_shows(land, j, length, paper), True)
        self.assertIs(jump_paper_shows(land, j, length - 1, paper), False)
        if j == 0:
            self.assertIs(paper_shows(land, length, height_paper(land)), True)
            self.assertIs(paper_shows(land, length - 1, height_paper(land)), False)
            self.assertIs(paper_shows(land, length, heights), True)

    def assert_heaviest(self, land, j, weights):
        let = let_by_hand(land, j)
        greatest = max(weigh(way, weights) for way in let)
        self.assertEqual(greatest_weight(land, j, weights), greatest)
        first = min(way for way in let if weigh(way, weights) == greatest)
        self.assertEqual(first_heaviest(land, j, weights), first)
        ones = [[1] * len(row) for row in land[0]]
        self.assertEqual(greatest_weight(land, j, ones), greatest_length(land, j))
        self.assertEqual(first_heaviest(land, j, ones), first_longest(land, j))

    def assert_turned(self, land, j):
        length = greatest_length(land, j)
        for told in (turned_about(land), laid_over(land), turned_about(laid_over(land))):
            self.assertIs(is_land(told), True)
            self.assertEqual(greatest_length(told, j), length)
            self.assertEqual(count_longest(told, j), count_longest(land, j))
            self.assertEqual(count_ways(told, j, 2), count_ways(land, j, 2))
        about = turned_about(land)
        over = laid_over(land)
        for number in range(count_longest(land, j)):
            way = way_by(land, j, number)
            self.assertEqual(way_by(about, j, number_of(about, j, way[::-1])), way[::-1])
            self.assertIs(is_way(over, j, [(place, row) for row, place in way]), True)

    def assert_moves(self, land):
        for row, place in cells_by_hand(land):
            self.assertEqual(number_at(land, (row, place)), land[0][row][place])
            self.assertEqual(steps_from(land, (row, place)), led_by_hand(land, (row, place), land[1]))
            self.assertEqual(jumps_from(land, (row, place)), led_by_hand(land, (row, place), land[2]))

    def assert_whole(self, land, draw):
        """That all stages tell of a land what is so."""
        weights = [[draw.randint(-4, 6) for _ in row] for row in land[0]]
        before = copy.deepcopy(land)
        self.assert_moves(land)
        for j in SOME_JUMPS:
            self.assert_longest(land, j)
            self.assert_heights(land, j)
            self.assert_heaviest(land, j, weights)
            self.assert_turned(land, j)
        lengths = [greatest_length(land, j) for j in range(8)]
        self.assertEqual(lengths, sorted(lengths))
        self.assertEqual(read_land(show_land(land)), land)
        self.assertEqual(show_land(land), writing_by_hand(land))
        self.assertEqual(land, before)

    def assert_keeper_agrees(self, keeper, land):
        self.assertEqual(keeper.land(), land)
        for j in SOME_JUMPS:
            self.assertEqual(keeper.length(j), greatest_length(land, j))
            self.assertEqual(keeper.many(j), count_longest(land, j))

    def assert_desk_agrees(self, desk, name, land):
        self.assertEqual(desk.say("show " + name), in_row(show_land(land)))
        for j in SOME_JUMPS:
            asked = " %s %d" % (name, j)
            self.assertEqual(desk.say("long" + asked), str(greatest_length(land, j)))
            self.assertEqual(desk.say("many" + asked), str(count_longest(land, j)))
            self.assertEqual(desk.say("way" + asked), way_writing_by_hand(first_longest(land, j)))
            last = count_longest(land, j) - 1
            self.assertEqual(desk.say("nth%s %d" % (asked, last)), way_writing_by_hand(way_by(land, j, last)))
            for row, place in cells_by_hand(land):
                height = str(all_heights(land, j)[row][place])
                self.assertEqual(desk.say("high%s %d %d" % (asked, row, place)), height)

    def test_small_lands(self):
        draw = random.Random(1)
        for land in small_lands()[::4]:
            self.assert_whole(land, draw)

    def test_behind_changes_in_a_keeper_and_at_a_desk(self):
        for seed in range(10):
            draw = random.Random(seed)
            land = drawn_land(seed + 500)
            keeper = Keeper(land)
            desk = Desk()
            desk.say("land there " + in_row(show_land(land)))
            stand = [land]
            for _ in range(12):
                if len(stand) > 1 and draw.random() < 0.3:
                    keeper.undo()
                    stand.pop()
                    desk.say("land there " + in_row(show_land(stand[-1])))
                else:
                    row, place = draw.choice(cells_by_hand(land))
                    number = draw.randint(-9, 9)
                    other = copy.deepcopy(stand[-1])
                    other[0][row][place] = number
                    stand.append(other)
                    keeper.change((row, place), number)
                    desk.say("cell there %d %d %d" % (row, place, number))
                self.assertEqual(keeper.changes(), len(stand) - 1)
                self.assert_keeper_agrees(keeper, stand[-1])
                self.assert_desk_agrees(desk, "there", stand[-1])
                self.assert_whole(keeper.land(), draw)

    def test_lands_told_by_one_module_are_taken_by_all(self):
        draw = random.Random(3)
        for seed in range(12):
            land = drawn_land(seed + 900)
            for told in (turned_about(land), laid_over(land), read_land(show_land(land)), Keeper(land).land()):
                self.assertIs(is_land(told), True)
                self.assert_whole(told, draw)
                self.assert_keeper_agrees(Keeper(told), told)

    def test_no_land_ahead_of_all_else(self):
        things = list(no_lands().values())[::3] + other_kinds()
        for ask, *rest in ASKERS:
            for thing in things:
                assert_refused(self, "NoLand", ask, thing, *rest)

    def test_no_two_lists_that_are_told_are_one(self):
        land = copy.deepcopy(MIXED)
        keeper = Keeper(land)
        desk = Desk()
        desk.say("land a " + in_row(show_land(land)))
        told = []
        for _ in range(2):
            told += [
                steps_from(land, (0, 0)), jumps_from(land, (0, 0)), all_heights(land, 1), first_longest(land, 1),
                way_by(land, 1, 0), first_heaviest(land, 1, land[0]), height_paper(land), jump_paper(land, 2),
                keeper.land(), turned_about(land), laid_over(land), read_land(show_land(land)), desk.names(),
            ]
        assert_all_lists_unlike(self, land, *told)
        self.assertEqual(land, MIXED)

    def test_each_refusal_by_its_name(self):
        desk = Desk()
        desk.say("land a 1/steps/jumps")
        told = {
            "NoLand": (show_land, None),
            "NoCell": (desk.say, "high a 0 1 0"),
            "NoNumber": (Keeper(MIXED).undo,),
            "NoWay": (number_of, MIXED, 0, []),
            "NoWeights": (greatest_weight, MIXED, 0, []),
            "NoText": (read_land, ""),
            "NoName": (desk.say, "show b"),
            "NoRow": (desk.say, ""),
        }
        self.assertEqual(sorted(told), sorted(REFUSALS))
        for name, (ask, *rest) in told.items():
            assert_refused(self, name, ask, *rest)


if __name__ == "__main__":
    unittest.main()
