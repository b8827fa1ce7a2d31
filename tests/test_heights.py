import copy
import itertools
import unittest

from climbways.heights import height_paper, jump_paper, jump_paper_shows, paper_shows
from climbways.longest import all_heights, greatest_length
from tests.helper import (
    CROSS, GREAT, MIXED, SLANT, Watched, assert_all_lists_unlike, assert_refused, cells_by_hand,
    drawn_land, layered_land, led_by_hand, let_by_hand, no_jump_counts, no_lands, no_sheets, other_kinds, small_lands,
    snake_land, thronged_land,
)

PAPER_JUMPS = (0, 1, 2, 3, 4)

# The told paper for MIXED, by hand: three cells along each row, one more for each jump down.
MIXED_PAPER = [
    [[3, 2, 1], [3, 2, 1], [3, 2, 1]],
    [[4, 3, 2], [4, 3, 2], [3, 2, 1]],
    [[5, 4, 3], [4, 3, 2], [3, 2, 1]],
]


def no_bounds():
    """Things that are no m for which anything is shown."""
    return other_kinds() + [0, -1, -GREAT, "5", b"5", [5], (5,), {5: 5}]


def no_paper_jumps():
    return no_jump_counts() + [5, 6, 36, GREAT]


def shows_by_hand(land, m, sheets):
    """Looks at sheets of the right shape as the document tells it."""
    for left, sheet in enumerate(sheets):
        for row, place in cells_by_hand(land):
            number = sheet[row][place]
            if not 1 <= number <= m:
                return False
            if any(number <= sheet[r][p] for r, p in led_by_hand(land, (row, place), land[1])):
                return False
            if left > 0 and any(number <= sheets[left - 1][r][p] for r, p in led_by_hand(land, (row, place), land[2])):
                return False
    return True


def changed(sheets, left, cell, thing):
    other = copy.deepcopy(sheets)
    other[left][cell[0]][cell[1]] = thing
    return other


def paper_lands():
    return small_lands()[::3] + [MIXED, snake_land(), snake_land(as_jumps=True), layered_land()] + [
        drawn_land(seed, 6, 6, 5, 8) for seed in range(12)
    ]


class HeightPaperTest(unittest.TestCase):
    def test_told_by_hand(self):
        self.assertEqual(height_paper(MIXED), MIXED_PAPER[0])
        self.assertIs(paper_shows(MIXED, 3, MIXED_PAPER[0]), True)
        self.assertIs(paper_shows(MIXED, 2, MIXED_PAPER[0]), False)

    def test_let_by_for_the_greatest_length_and_more_and_nothing_less(self):
        for land in paper_lands():
            paper = height_paper(land)
            length = greatest_length(land, 0)
            for m in (length, length + 1, length + 2, 36 + length, GREAT):
                self.assertIs(paper_shows(land, m, paper), True, (land, m))
            for m in list(range(-1, length)) + [-length, -GREAT]:
                self.assertIs(paper_shows(land, m, paper), False, (land, m))

    def test_every_paper_of_small_lands(self):
        for land in small_lands()[0:81:2]:
            for numbers in itertools.product(range(4), repeat=4):
                paper = [list(numbers[:2]), list(numbers[2:])]
                for m in (2, 3):
                    shown = paper_shows(land, m, paper)
                    self.assertIs(shown, shows_by_hand(land, m, [paper]), (land, m, paper))
                    self.assertFalse(shown and greatest_length(land, 0) > m, (land, m, paper))

    def test_other_papers_than_the_told_one(self):
        land = ([[1, 2, 3]], [(0, 1)], [])
        for paper, m in (([[9, 5, 2]], 9), ([[3, 2, 1]], 3), ([[GREAT, 2, 1]], GREAT), ([[4, 3, 1]], 4)):
            self.assertIs(paper_shows(land, m, paper), True)
            self.assertIs(paper_shows(land, m - 1, paper), False)
        for paper in ([[3, 3, 1]], [[3, 2, 2]], [[2, 3, 1]], [[1, 2, 3]], [[3, 1, 2]]):
            self.assertIs(paper_shows(land, 3, paper), False)
            self.assertIs(paper_shows(land, GREAT, paper), False)

    def test_jumps_are_not_looked_at(self):
        land = ([[1, 2], [3, 4]], [], [(0, 1), (1, 0)])
        self.assertEqual(height_paper(land), [[1, 1], [1, 1]])
        self.assertIs(paper_shows(land, 1, [[1, 1], [1, 1]]), True)

    def test_one_number_changed_at_any_place(self):
        for land in paper_lands():
            paper = height_paper(land)
            m = greatest_length(land, 0)
            for cell in cells_by_hand(land):
                number = paper[cell[0]][cell[1]]
                # The told heights are the least that there can be.
                for other in range(number):
                    self.assertIs(paper_shows(land, m, changed([paper], 0, cell, other)[0]), False, (land, cell))
                for other in (number + 1, number + 2, m, m + 1):
                    paper_now = changed([paper], 0, cell, other)
                    self.assertIs(
                        paper_shows(land, m, paper_now[0]), shows_by_hand(land, m, paper_now), (land, cell, other)
                    )
                for other in (0, -1, -GREAT, m + 1, GREAT, True, False, None, "1", [1], (1,), b"1", {1: 1}):
                    paper_now = changed([paper], 0, cell, other)[0]
                    self.assertIs(paper_shows(land, m, paper_now), False, (land, cell, other))

    def test_a_truth_is_no_number_also_where_it_would_fit(self):
        land = ([[1, 2]], [(0, 1)], [])
        self.assertIs(paper_shows(land, 2, [[2, 1]]), True)
        self.assertIs(paper_shows(land, 2, [[2, True]]), False)
        self.assertIs(paper_shows(([[1]], [], []), 1, [[True]]), False)
        self.assertIs(paper_shows(([[1]], [], []), True, [[1]]), False)

    def test_things_that_are_no_paper(self):
        for land in [([[1] * 3] * 3, CROSS, SLANT), ([[1]], [], []), ([[1, 1]], [], []), ([[1], [1]], [], [])]:
            self.assertIs(paper_shows(land, 1, [[1] * len(row) for row in land[0]]), True)
            for thing in no_sheets(len(land[0]), len(land[0][0])):
                for m in (1, 5, GREAT):
                    self.assertIs(paper_shows(land, m, thing), False, (land, thing))

    def test_things_that_are_no_bound(self):
        for land in [MIXED, ([[1]], [], [])]:
            for m in no_bounds():
                self.assertIs(paper_shows(land, m, height_paper(land)), False, m)
                for thing in other_kinds():
                    self.assertIs(paper_shows(land, m, thing), False, (m, thing))


class JumpPaperTest(unittest.TestCase):
    def test_told_by_hand(self):
        for j in (0, 1, 2):
            self.assertEqual(jump_paper(MIXED, j), MIXED_PAPER[:j + 1])
            self.assertIs(jump_paper_shows(MIXED, j, 3 + j, MIXED_PAPER[:j + 1]), True)
            self.assertIs(jump_paper_shows(MIXED, j, 2 + j, MIXED_PAPER[:j + 1]), False)
        self.assertEqual(jump_paper(MIXED, 4), MIXED_PAPER + [MIXED_PAPER[2], MIXED_PAPER[2]])
        self.assertEqual(jump_paper(([[7]], [], []), 4), [[[1]]] * 5)

    def test_so_many_lists_of_heights(self):
        for land in paper_lands():
            for j in PAPER_JUMPS:
                self.assertEqual(jump_paper(land, j), [all_heights(land, left) for left in range(j + 1)], (land, j))
            self.assertEqual(jump_paper(land, 0), [height_paper(land)])

    def test_let_by_for_the_greatest_length_and_more_and_nothing_less(self):
        for land in paper_lands():
            for j in PAPER_JUMPS:
                paper = jump_paper(land, j)
                length = greatest_length(land, j)
                for m in (length, length + 1, 36 + length, GREAT):
                    self.assertIs(jump_paper_shows(land, j, m, paper), True, (land, j, m))
                for m in list(range(-1, length)) + [-length, -GREAT]:
                    self.assertIs(jump_paper_shows(land, j, m, paper), False, (land, j, m))

    def test_a_jump_leads_from_one_list_to_the_list_ahead(self):
        land = ([[1, 2]], [], [(0, 1)])
        self.assertIs(jump_paper_shows(land, 0, 1, [[[1, 1]]]), True)
        self.assertIs(jump_paper_shows(land, 1, 2, [[[1, 1]], [[2, 1]]]), True)
        # Within one list a jump asks nothing, and neither does it of the list behind.
        self.assertIs(jump_paper_shows(land, 1, 2, [[[1, 1]], [[2, 2]]]), True)
        self.assertIs(jump_paper_shows(land, 2, 3, [[[1, 1]], [[2, 2]], [[3, 3]]]), True)
        self.assertIs(jump_paper_shows(land, 1, 2, [[[1, 1]], [[1, 1]]]), False)
        self.assertIs(jump_paper_shows(land, 1, 2, [[[1, 2]], [[2, 1]]]), False)
        self.assertIs(jump_paper_shows(land, 1, 3, [[[1, 2]], [[3, 1]]]), True)
        self.assertIs(jump_paper_shows(land, 1, 2, [[[2, 1]], [[1, 1]]]), False)
        self.assertIs(jump_paper_shows(land, 2, 3, [[[1, 1]], [[2, 2]], [[2, 3]]]), False)

    def test_a_step_leads_within_one_list(self):
        land = ([[1, 2]], [(0, 1)], [])
        self.assertIs(jump_paper_shows(land, 1, 2, [[[2, 1]], [[2, 1]]]), True)
        self.assertIs(jump_paper_shows(land, 1, 4, [[[4, 3]], [[2, 1]]]), True)
        self.assertIs(jump_paper_shows(land, 1, 2, [[[2, 1]], [[2, 2]]]), False)
        self.assertIs(jump_paper_shows(land, 1, 2, [[[1, 1]], [[2, 1]]]), False)
        self.assertIs(jump_paper_shows(land, 1, 3, [[[2, 1]], [[3, 3]]]), False)

    def test_every_paper_of_a_small_land(self):
        lands = [
            ([[1, 2, 3]], [(0, 1)], [(0, 2)]), ([[2, 1, 3]], [(0, 1)], [(0, -1), (0, 2)]),
            ([[1, 2, 2]], [(0, 2)], [(0, 1)]), ([[1, 1, 1]], [(0, 1)], [(0, 2)]),
        ]
        for land in lands:
            for numbers in itertools.product(range(1, 4), repeat=6):
                paper = [[list(numbers[:3])], [list(numbers[3:])]]
                for m in (2, 3):
                    shown = jump_paper_shows(land, 1, m, paper)
                    self.assertIs(shown, shows_by_hand(land, m, paper), (land, m, paper))
                    self.assertFalse(shown and max(len(way) for way in let_by_hand(land, 1)) > m, (land, m, paper))

    def test_one_number_changed_at_any_place(self):
        for land in paper_lands()[::3]:
            for j in (1, 2, 4):
                paper = jump_paper(land, j)
                m = greatest_length(land, j)
                for left in range(j + 1):
                    for cell in cells_by_hand(land):
                        number = paper[left][cell[0]][cell[1]]
                        paper_now = changed(paper, left, cell, number - 1)
                        self.assertIs(jump_paper_shows(land, j, m, paper_now), False, (land, left, cell))
                        for other in (number + 1, m):
                            paper_now = changed(paper, left, cell, other)
                            self.assertIs(
                                jump_paper_shows(land, j, m, paper_now), shows_by_hand(land, m, paper_now),
                                (land, left, cell, other)
                            )
                        for other in (0, -1, m + 1, GREAT, True, False, None, "1", [1]):
                            paper_now = changed(paper, left, cell, other)
                            self.assertIs(jump_paper_shows(land, j, m, paper_now), False, (land, left, cell, other))

    def test_a_truth_is_no_number_also_where_it_would_fit(self):
        land = ([[1]], [], [])
        self.assertIs(jump_paper_shows(land, 1, 1, [[[1]], [[1]]]), True)
        self.assertIs(jump_paper_shows(land, 1, 1, [[[True]], [[1]]]), False)
        self.assertIs(jump_paper_shows(land, 1, 1, [[[1]], [[True]]]), False)
        self.assertIs(jump_paper_shows(land, 1, True, [[[1]], [[1]]]), False)

    def test_one_list_in_several_places_is_let_by(self):
        sheet = [[1, 1], [1, 1]]
        self.assertIs(jump_paper_shows(([[1, 2], [3, 4]], [], []), 3, 1, [sheet] * 4), True)

    def test_too_few_and_too_many_lists(self):
        for land in [MIXED, ([[1]], [], [])]:
            for j in PAPER_JUMPS:
                for other in PAPER_JUMPS:
                    shown = jump_paper_shows(land, j, GREAT, jump_paper(land, other))
                    self.assertIs(shown, j == other, (land, j, other))
                self.assertIs(jump_paper_shows(land, j, GREAT, jump_paper(land, 4) * 2), False)
                self.assertIs(jump_paper_shows(land, j, GREAT, []), False)
                self.assertIs(jump_paper_shows(land, j, GREAT, height_paper(land)), False)

    def test_things_that_are_no_paper(self):
        for land in [([[1] * 2] * 2, CROSS, SLANT), ([[1]], [], [])]:
            good = [[1] * len(row) for row in land[0]]
            for j in PAPER_JUMPS:
                self.assertIs(jump_paper_shows(land, j, 1, [good] * (j + 1)), True)
                self.assertIs(jump_paper_shows(land, j, 1, tuple([good] * (j + 1))), False)
                self.assertIs(jump_paper_shows(land, j, 1, dict(enumerate([good] * (j + 1)))), False)
                for thing in other_kinds() + [good, 0, 1]:
                    self.assertIs(jump_paper_shows(land, j, 1, thing), False, (land, j, thing))
                for thing in no_sheets(len(land[0]), len(land[0][0])):
                    for left in range(j + 1):
                        paper = [good] * left + [thing] + [good] * (j - left)
                        self.assertIs(jump_paper_shows(land, j, GREAT, paper), False, (land, j, paper))

    def test_things_that_are_no_bound(self):
        for j in PAPER_JUMPS:
            for m in no_bounds():
                self.assertIs(jump_paper_shows(MIXED, j, m, jump_paper(MIXED, j)), False, m)
                for thing in other_kinds():
                    self.assertIs(jump_paper_shows(MIXED, j, m, thing), False, (m, thing))


class RefusedTest(unittest.TestCase):
    def ask_all(self, land, j, m, thing):
        assert_refused(self, "NoLand", height_paper, land)
        assert_refused(self, "NoLand", paper_shows, land, m, thing)
        assert_refused(self, "NoLand", jump_paper, land, j)
        assert_refused(self, "NoLand", jump_paper_shows, land, j, m, thing)

    def test_no_land(self):
        for thing in list(no_lands().values()) + other_kinds():
            self.ask_all(thing, 0, 1, [[1]])

    def test_no_land_ahead_of_all(self):
        for land in [([[1, True]], [], []), None, [[[1]], [], []], ([[1]], [(0, 1)], [(0, 1)]), ([[]], [], [])]:
            for j in (0, 5, -1, True, None):
                for m in (1, 0, True, None):
                    for thing in ([[1]], [[[1]]], None, "x"):
                        self.ask_all(land, j, m, thing)

    def test_no_number(self):
        for j in no_paper_jumps():
            assert_refused(self, "NoNumber", jump_paper, MIXED, j)

    def test_no_number_whatever_the_paper_and_the_bound(self):
        papers = [jump_paper(MIXED, j) for j in PAPER_JUMPS]
        papers += [[papers[4][4]] * many for many in (6, 7)] + [None, [], "x", True, {}, ()]
        for j in no_paper_jumps():
            for thing in papers:
                for m in (9, GREAT, 0, -1, True, None, "9"):
                    assert_refused(self, "NoNumber", jump_paper_shows, MIXED, j, m, thing)


class OwnTest(unittest.TestCase):
    def setUp(self):
        self.land = copy.deepcopy(MIXED)

    def test_what_is_handed_in_stays(self):
        paper = height_paper(self.land)
        papers = jump_paper(self.land, 2)
        kept = copy.deepcopy((paper, papers))
        for m in (1, 3, 5, GREAT, None):
            paper_shows(self.land, m, paper)
            jump_paper_shows(self.land, 2, m, papers)
            jump_paper_shows(self.land, 1, m, papers)
        self.assertEqual((paper, papers), kept)
        self.assertEqual(self.land, MIXED)

    def test_told_papers_are_the_askers_own_in_all_depths(self):
        for land in (self.land, ([[1, 1], [1, 1]], [], []), ([[7]], [], [])):
            paper = height_paper(land)
            kept = copy.deepcopy(paper)
            assert_all_lists_unlike(self, paper, height_paper(land), land)
            paper[0][0] = 99
            self.assertEqual(paper[1:], kept[1:])
            paper.append([])
            self.assertEqual(height_paper(land), kept)
            for j in PAPER_JUMPS:
                papers = jump_paper(land, j)
                kept = copy.deepcopy(papers)
                second = jump_paper(land, j)
                assert_all_lists_unlike(self, papers, second, land)
                papers[0][0][0] = 99
                self.assertEqual(papers[1:], kept[1:])
                self.assertEqual(papers[0][1:], kept[0][1:])
                papers[-1].append([])
                papers.append([])
                self.assertEqual(second, kept)
                self.assertEqual(jump_paper(land, j), kept)

    def test_kinds_that_are_told(self):
        for sheet in [height_paper(self.land)] + jump_paper(self.land, 3):
            self.assertIs(type(sheet), list)
            for row in sheet:
                self.assertIs(type(row), list)
                self.assertTrue(all(type(number) is int for number in row))
        self.assertIs(type(jump_paper(self.land, 3)), list)

    def test_nothing_is_kept(self):
        paper = height_paper(self.land)
        papers = jump_paper(self.land, 1)
        self.assertIs(paper_shows(self.land, 3, paper), True)
        self.assertIs(jump_paper_shows(self.land, 1, 4, papers), True)
        paper[0][0] = 2
        papers[1][0][0] = 3
        self.assertIs(paper_shows(self.land, 3, paper), False)
        self.assertIs(jump_paper_shows(self.land, 1, 4, papers), False)
        self.land[0][0][0] = 99
        self.assertIs(paper_shows(self.land, 3, paper), True)
        self.assertIs(jump_paper_shows(self.land, 1, 4, papers), True)
        self.assertEqual(height_paper(self.land)[0], [1, 2, 1])
        self.assertEqual(jump_paper(self.land, 1)[1][0], [1, 3, 2])

    def test_the_same_asked_again(self):
        self.assertEqual(height_paper(self.land), height_paper(copy.deepcopy(self.land)))
        for j in PAPER_JUMPS:
            paper = jump_paper(self.land, j)
            self.assertEqual(jump_paper(copy.deepcopy(self.land), j), paper)
            for m in (3, 4, 5):
                shown = jump_paper_shows(self.land, j, m, paper)
                self.assertIs(jump_paper_shows(self.land, j, m, paper), shown)
                self.assertIs(jump_paper_shows(copy.deepcopy(self.land), j, m, copy.deepcopy(paper)), shown)

    def test_a_cell_is_not_reckoned_anew_for_each_way(self):
        for land in (layered_land(Watched), thronged_land(Watched)):
            Watched.compared = 0
            paper = height_paper(land)
            self.assertIs(paper_shows(land, 36, paper), True)
            for j in PAPER_JUMPS:
                Watched.compared = 0
                papers = jump_paper(land, j)
                self.assertIs(jump_paper_shows(land, j, 36, papers), True)
        self.assertGreater(Watched.compared, 0)


if __name__ == "__main__":
    unittest.main()
