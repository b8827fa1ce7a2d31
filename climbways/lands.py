"""Lands: a table of numbers, with the steps and the jumps that lead from cell to cell."""

from climbways.errors import NoCell, NoLand

MOST_ROWS = 6
MOST_PLACES = 6
MOST_MOVES = 8
FARTHEST = 5


def is_whole(thing):
    """Whether a thing is a whole number: an int that is no truth."""
    return isinstance(thing, int) and not isinstance(thing, bool)


def is_pair(thing):
    """Whether a thing is a tuple of two whole numbers, as cells and moves are."""
    return isinstance(thing, tuple) and len(thing) == 2 and is_whole(thing[0]) and is_whole(thing[1])


def is_row(thing):
    """Whether a thing can be a row of a table."""
    return isinstance(thing, list) and 1 <= len(thing) <= MOST_PLACES and all(is_whole(number) for number in thing)


def is_table(thing):
    """Whether a thing is a table: a list of rows of one length."""
    if not isinstance(thing, list) or not 1 <= len(thing) <= MOST_ROWS:
        return False
    if not all(is_row(row) for row in thing):
        return False
    width = len(thing[0])
    return all(len(row) == width for row in thing)


def is_move(thing):
    """Whether a thing can be a step or a jump: a tuple (down, right)."""
    if not is_pair(thing):
        return False
    down, right = thing
    if down == 0 and right == 0:
        return False
    return -FARTHEST <= down <= FARTHEST and -FARTHEST <= right <= FARTHEST


def is_move_list(thing):
    """Whether a thing can be the steps or the jumps of a land."""
    if not isinstance(thing, list) or len(thing) > MOST_MOVES:
        return False
    # Only moves are sure to be comparable, so the order is looked at last.
    if not all(is_move(move) for move in thing):
        return False
    return all(thing[at - 1] < thing[at] for at in range(1, len(thing)))


def is_land(thing):
    """Whether a thing, of any kind, is a land."""
    if not isinstance(thing, tuple) or len(thing) != 3:
        return False
    table, steps, jumps = thing
    if not is_table(table) or not is_move_list(steps) or not is_move_list(jumps):
        return False
    return not any(move in jumps for move in steps)


def is_cell(land, thing):
    """Whether a thing, of any kind, is a cell of a land that was checked."""
    if not is_pair(thing):
        return False
    table = land[0]
    row, place = thing
    return 0 <= row < len(table) and 0 <= place < len(table[0])


def fits_table(land, thing):
    """Whether a thing, of any kind, is a list of rows of whole numbers as the table of a checked land has them."""
    table = land[0]
    return is_table(thing) and len(thing) == len(table) and len(thing[0]) == len(table[0])


def check_land(thing):
    """Refuse what is no land."""
    if not is_land(thing):
        raise NoLand("this is no land")


def check_cell(land, thing):
    """Refuse what is no cell of a land that was checked."""
    if not is_cell(land, thing):
        raise NoCell("this is no cell of the land")


def copied(land):
    """A land like one that was checked, of new lists."""
    table, steps, jumps = land
    return ([list(row) for row in table], list(steps), list(jumps))


def with_number(land, cell, number):
    """A land of new lists with this number in a cell; land, cell and number were checked."""
    other = copied(land)
    row, place = cell
    other[0][row][place] = number
    return other


def number_at(land, cell):
    """The number of a cell."""
    check_land(land)
    check_cell(land, cell)
    row, place = cell
    return land[0][row][place]


def cells_led_to(land, cell, moves):
    """The cells with a greater number to which one of the moves leads, rising; land and cell were checked."""
    table = land[0]
    row, place = cell
    led = []
    # The moves rise, and so do the cells that lie one move away from one cell.
    for down, right in moves:
        there = (row + down, place + right)
        if is_cell(land, there) and table[there[0]][there[1]] > table[row][place]:
            led.append(there)
    return led


def steps_from(land, cell):
    """The cells to which one step leads from a cell, rising."""
    check_land(land)
    check_cell(land, cell)
    return cells_led_to(land, cell, land[1])


def jumps_from(land, cell):
    """The cells to which one jump leads from a cell, rising."""
    check_land(land)
    check_cell(land, cell)
    return cells_led_to(land, cell, land[2])
