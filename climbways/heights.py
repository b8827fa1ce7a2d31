"""Papers by heights: lists of rows which show that no way has more than so many cells."""

from climbways.errors import NoNumber
from climbways.lands import check_land, fits_table, is_whole
from climbways.longest import all_heights, cells_of, check_jumps, heights_by_jumps, in_rows, onward

MOST_PAPER_JUMPS = 4


def check_paper_jumps(thing):
    """Refuse what is no number of jumps for which there are papers."""
    check_jumps(thing)
    if thing > MOST_PAPER_JUMPS:
        raise NoNumber("there are no papers for so many jumps")


def is_sheet(land, m, thing):
    """Whether a thing, of any kind, is a list of rows as the table has them, of whole numbers from 1 to m."""
    return fits_table(land, thing) and all(1 <= number <= m for row in thing for number in row)


def is_greater_than_onward(land, sheets, left, cell):
    """Whether a cell's number, with so many jumps left, is greater than those of all to which one move leads."""
    number = sheets[left][cell[0]][cell[1]]
    return all(number > sheets[later][there[0]][there[1]] for there, later in onward(land, cell, left))


def sheets_show(land, m, sheets):
    """Whether the sheets, the k-th of them for k jumps left, show that no way has more than m cells."""
    if not is_whole(m) or not all(is_sheet(land, m, sheet) for sheet in sheets):
        return False
    cells = cells_of(land)
    return all(is_greater_than_onward(land, sheets, left, cell) for left in range(len(sheets)) for cell in cells)


def height_paper(land):
    """A paper for the greatest length of a way without jumps."""
    return all_heights(land, 0)


def paper_shows(land, m, thing):
    """Whether a thing, of any kind, is a paper that no way without jumps has more than m cells."""
    check_land(land)
    return sheets_show(land, m, [thing])


def jump_paper(land, j):
    """A paper for the greatest length of a way with at most j jumps."""
    check_land(land)
    check_paper_jumps(j)
    return [in_rows(land, heights) for heights in heights_by_jumps(land, j)]


def jump_paper_shows(land, j, m, thing):
    """Whether a thing, of any kind, is a paper that no way with at most j jumps has more than m cells."""
    check_land(land)
    check_paper_jumps(j)
    if not isinstance(thing, list) or len(thing) != j + 1:
        return False
    return sheets_show(land, m, thing)
