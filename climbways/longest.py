"""The longest ways: what a way is, heights of cells, the greatest length and the first way of this length."""

from climbways.errors import NoNumber
from climbways.lands import cells_led_to, check_cell, check_land, is_cell, is_whole


def check_jumps(thing):
    """Refuse what is no number of jumps."""
    if not is_whole(thing) or thing < 0:
        raise NoNumber("this is no number of jumps")


def goes_within(land, j, cells):
    """Whether each of the cells leads to the next one, by at most j jumps in all."""
    left = j
    for at in range(1, len(cells)):
        if cells[at] in cells_led_to(land, cells[at - 1], land[2]):
            left -= 1
        elif cells[at] not in cells_led_to(land, cells[at - 1], land[1]):
            return False
    return left >= 0


def is_way(land, j, thing):
    """Whether a thing, of any kind, is a way with at most j jumps."""
    check_land(land)
    check_jumps(j)
    if not isinstance(thing, list) or len(thing) == 0:
        return False
    if not all(is_cell(land, cell) for cell in thing):
        return False
    return goes_within(land, j, thing)


def cells_of(land):
    """All cells of a land, rising."""
    table = land[0]
    return [(row, place) for row in range(len(table)) for place in range(len(table[0]))]


def cells_from_the_top(land):
    """All cells of a land, those with greater numbers first."""
    table = land[0]
    return sorted(cells_of(land), key=lambda cell: -table[cell[0]][cell[1]])


def useful_jumps(land, j):
    """How many of j jumps a way can go by at all."""
    # No cell comes twice in a way, so it has fewer moves than the land has cells.
    return min(j, len(cells_of(land)) - 1)


def onward(land, cell, left):
    """The pairs (cell, jumps left) to which one step leads, or one jump where one is left."""
    led = [(there, left) for there in cells_led_to(land, cell, land[1])]
    if left > 0:
        led += [(there, left - 1) for there in cells_led_to(land, cell, land[2])]
    return led


def reckoned_by_jumps(land, most, reckon):
    """What is reckoned of all cells, by cell, for each number of jumps left from 0 to most.

    reckon takes a cell and the list of what was reckoned of all to which one move leads from it.
    """
    # What a cell leads to has a greater number, so from the top down each cell needs only what is known.
    cells = cells_from_the_top(land)
    reckoned = []
    for left in range(most + 1):
        reckoned.append({})
        for cell in cells:
            beyond = [reckoned[later][there] for there, later in onward(land, cell, left)]
            reckoned[left][cell] = reckon(cell, beyond)
    return reckoned


def heights_by_jumps(land, most):
    """The heights of all cells, by cell, for each number of jumps left from 0 to most."""
    return reckoned_by_jumps(land, most, lambda cell, beyond: 1 + max(beyond, default=0))


def heights_with(land, j):
    """The heights of all cells with j jumps, by cell."""
    most = useful_jumps(land, j)
    return heights_by_jumps(land, most)[most]


def in_rows(land, by_cell):
    """What is held by cell, as a list of rows as the table has them."""
    table = land[0]
    return [[by_cell[(row, place)] for place in range(len(table[0]))] for row in range(len(table))]


def height_of(land, j, cell):
    """How many cells the longest way from a cell has that goes by at most j jumps."""
    check_land(land)
    check_cell(land, cell)
    check_jumps(j)
    return heights_with(land, j)[cell]


def all_heights(land, j):
    """The heights of all cells with j jumps, as a list of rows."""
    check_land(land)
    check_jumps(j)
    return in_rows(land, heights_with(land, j))


def greatest_length(land, j):
    """How many cells the longest ways with at most j jumps have."""
    check_land(land)
    check_jumps(j)
    return max(heights_with(land, j).values())


def first_longest(land, j):
    """The first, in the order of lists, of the longest ways with at most j jumps."""
    check_land(land)
    check_jumps(j)
    left = useful_jumps(land, j)
    heights = heights_by_jumps(land, left)
    length = max(heights[left].values())
    cell = min([start for start in heights[left] if heights[left][start] == length])
    way = [cell]
    for rest in range(length - 1, 0, -1):
        # No move is both a step and a jump, so each cell stands in one pair and the least pair has the least cell.
        cell, left = min([(there, later) for there, later in onward(land, cell, left) if heights[later][there] == rest])
        way.append(cell)
    return way
