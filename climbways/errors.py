"""The refusals of the program."""


class ClimbError(ValueError):
    """Any refusal."""


class NoLand(ClimbError):
    """What is handed in as a land is none."""


class NoCell(ClimbError):
    """What is handed in as a cell is none of the land."""


class NoNumber(ClimbError):
    """What is handed in as a number is none that is let."""


class NoWay(ClimbError):
    """What is handed in as a way is none of those that are numbered."""


class NoWeights(ClimbError):
    """What is handed in as weights does not fit the table."""


class NoText(ClimbError):
    """What is handed in as a text writes no land."""


class NoName(ClimbError):
    """No land stands by the name."""


class NoRow(ClimbError):
    """What is said to a desk is no row that it knows."""
