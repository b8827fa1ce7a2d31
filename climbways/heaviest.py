"""The heaviest: the greatest weight of a way by told weights, and the first way that weighs it."""

from climbways.errors import NoWeights
from climbways.lands import check_land, fits_table
from climbways.longest import check_jumps, onward, reckoned_by_jumps, useful_jumps


def check_weights(land, thing):
    """Refuse what is no weights for a land that was checked."""
    if not fits_table(land, thing):
        raise NoWeights("these are no weights for the table")


def greatest_by_jumps(land, most, weights):
    """The greatest weights of ways from all cells, by cell, for each number of jumps left from 0 to most."""
    # A way may end at any cell, so it goes on only where that makes it heavier.
    return reckoned_by_jumps(land, most, lambda cell, beyond: weights[cell[0]][cell[1]] + max([0] + beyond))


def greatest_weight(land, j, weights):
    """The greatest weight of a way with at most j jumps."""
    check_land(land)
    check_weights(land, weights)
    check_jumps(j)
    most = useful_jumps(land, j)
    return max(greatest_by_jumps(land, most, weights)[most].values())


def first_heaviest(land, j, weights):
    """The first, in the order of lists, of the heaviest ways with at most j jumps."""
    check_land(land)
    check_weights(land, weights)
    check_jumps(j)
    left = useful_jumps(land, j)
    greatest = greatest_by_jumps(land, left, weights)
    rest = max(greatest[left].values())
    pairs = [(cell, left) for cell in greatest[left]]
    way = []
    # A list stands ahead of every longer one that begins with it, so the way ends once nothing is left to weigh.
    # But one cell it has at least, also where the greatest weight is 0.
    while rest != 0 or len(way) == 0:
        cell, left = min([(there, later) for there, later in pairs if greatest[later][there] == rest])
        way.append(cell)
        rest -= weights[cell[0]][cell[1]]
        pairs = onward(land, cell, left)
    return way
