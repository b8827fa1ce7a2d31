"""Counted: how many ways there are, and the longest ways by their numbers and back.

A tally is a list of how many ways of one cell, of two cells and so on begin at a cell; it ends with the longest.
"""

from climbways.errors import NoNumber, NoWay
from climbways.lands import check_cell, check_land, is_whole
from climbways.longest import check_jumps, is_way, onward, reckoned_by_jumps, useful_jumps


def tally_over(beyond):
    """The tally of a cell that leads to cells of these tallies."""
    tally = [1] + [0] * max([len(later) for later in beyond], default=0)
    for later in beyond:
        for at, many in enumerate(later):
            tally[at + 1] += many
    return tally


def tallies_for(land, j):
    """The tallies of all cells, by cell, for each number of jumps left; the last ones are those with j jumps."""
    return reckoned_by_jumps(land, useful_jumps(land, j), lambda cell, beyond: tally_over(beyond))


def longest_tallied(tallies):
    """How many cells the longest ways have."""
    return max([len(tally) for tally in tallies[-1].values()])


def starts(tallies):
    """The pairs (cell, jumps left) with which a way can begin, rising."""
    return [(cell, len(tallies) - 1) for cell in sorted(tallies[-1])]


def many_from(tallies, pair, n):
    """How many ways of n cells begin with a pair (cell, jumps left)."""
    cell, left = pair
    tally = tallies[left][cell]
    return tally[n - 1] if n <= len(tally) else 0


def many_among(tallies, pairs, n):
    """How many ways of n cells begin with one of the pairs."""
    return sum([many_from(tallies, pair, n) for pair in pairs])


def count_longest(land, j):
    """How many ways of the greatest length with at most j jumps there are."""
    check_land(land)
    check_jumps(j)
    tallies = tallies_for(land, j)
    return many_among(tallies, starts(tallies), longest_tallied(tallies))


def count_from(land, j, cell):
    """How many of the ways of the greatest length with at most j jumps begin at a cell."""
    check_land(land)
    check_cell(land, cell)
    check_jumps(j)
    tallies = tallies_for(land, j)
    return many_from(tallies, (cell, len(tallies) - 1), longest_tallied(tallies))


def count_ways(land, j, n):
    """How many ways of n cells with at most j jumps there are."""
    check_land(land)
    check_jumps(j)
    if not is_whole(n) or n < 1:
        raise NoNumber("this is no number of cells of a way")
    tallies = tallies_for(land, j)
    return many_among(tallies, starts(tallies), n)


def pair_by(tallies, pairs, n, number):
    """The pair with which the way of a number begins, among those of n cells from rising pairs, and what is left of
    the number: how many of those that begin with this pair stand ahead of the way."""
    at = 0
    left_over = number
    while left_over >= many_from(tallies, pairs[at], n):
        left_over -= many_from(tallies, pairs[at], n)
        at += 1
    return pairs[at], left_over


def way_by(land, j, number):
    """The way of a number among the longest with at most j jumps, numbered from 0 on in the order of lists."""
    check_land(land)
    check_jumps(j)
    tallies = tallies_for(land, j)
    length = longest_tallied(tallies)
    pairs = starts(tallies)
    if not is_whole(number) or not 0 <= number < many_among(tallies, pairs, length):
        raise NoNumber("this is no number of a longest way")
    left_over = number
    way = []
    for rest in range(length, 0, -1):
        (cell, left), left_over = pair_by(tallies, pairs, rest, left_over)
        way.append(cell)
        # No move is both a step and a jump, so each cell stands in one pair and the pairs rise as the cells do.
        pairs = sorted(onward(land, cell, left))
    return way


def number_of(land, j, thing):
    """The number of a way among the longest with at most j jumps."""
    check_land(land)
    check_jumps(j)
    tallies = tallies_for(land, j)
    length = longest_tallied(tallies)
    if not is_way(land, j, thing) or len(thing) != length:
        raise NoWay("this is none of the longest ways")
    number = 0
    pairs = starts(tallies)
    for at, cell in enumerate(thing):
        number += many_among(tallies, [pair for pair in pairs if pair[0] < cell], length - at)
        left = [later for there, later in pairs if there == cell][0]
        pairs = onward(land, cell, left)
    return number
