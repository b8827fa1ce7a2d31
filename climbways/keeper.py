"""A Keeper: a land whose cells change, and what that does to the longest ways."""

from climbways.counted import count_longest
from climbways.errors import NoNumber
from climbways.lands import check_cell, check_land, copied, is_whole, with_number
from climbways.longest import greatest_length


class Keeper:
    """Keeps a land, and for each change that stands the land ahead of it."""

    def __init__(self, land):
        check_land(land)
        self.kept = copied(land)
        self.former = []

    def change(self, cell, number):
        """Give a cell a number; tells the greatest length without jumps before and now."""
        check_cell(self.kept, cell)
        if not is_whole(number):
            raise NoNumber("this is no whole number")
        before = self.length(0)
        self.former.append(self.kept)
        self.kept = with_number(self.kept, cell, number)
        return (before, self.length(0))

    def undo(self):
        """Undo the last change that stands; tells the greatest length without jumps before and now."""
        if len(self.former) == 0:
            raise NoNumber("no change is left that could be undone")
        before = self.length(0)
        self.kept = self.former.pop()
        return (before, self.length(0))

    def land(self):
        """The land as it is now."""
        return copied(self.kept)

    def length(self, j):
        """How many cells the longest ways with at most j jumps have."""
        return greatest_length(self.kept, j)

    def many(self, j):
        """How many ways of the greatest length with at most j jumps there are."""
        return count_longest(self.kept, j)

    def changes(self):
        """How many changes stand."""
        return len(self.former)
