"""Turned: a land turned about, whose ways are the old ones backwards, and a land laid over, rows as places."""

from climbways.lands import check_land


def moves_back(moves):
    """Each move with the other signs, rising."""
    return sorted([(-down, -right) for down, right in moves])


def moves_over(moves):
    """Each move with down as right and right as down, rising."""
    return sorted([(right, down) for down, right in moves])


def turned_about(land):
    """The land with the other sign for each number, and with each step and jump back."""
    check_land(land)
    table, steps, jumps = land
    return ([[-number for number in row] for row in table], moves_back(steps), moves_back(jumps))


def laid_over(land):
    """The land with rows as places and places as rows, in the table, steps and jumps."""
    check_land(land)
    table, steps, jumps = land
    columns = [[row[place] for row in table] for place in range(len(table[0]))]
    return (columns, moves_over(steps), moves_over(jumps))
