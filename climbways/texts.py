"""Texts: a land written in rows, and read back."""

from climbways.errors import NoText
from climbways.lands import check_land, is_land

FIGURES = "0123456789"
PIECE_FIGURES = 9
PIECE = 1000000000


def is_figures(word):
    """Whether a text is figures alone, one at least, with no 0 ahead of another one."""
    if word == "" or not all(sign in FIGURES for sign in word):
        return False
    return word == "0" or not word.startswith("0")


def is_number(word):
    """Whether a text writes a whole number."""
    return is_figures(word.removeprefix("-")) and word != "-0"


def show_number(number):
    """A whole number by its figures, with - ahead if it is below 0."""
    # Python itself writes and reads no number of more than some thousand figures at once; by pieces it does.
    left = abs(number)
    figures = ""
    while left >= PIECE:
        left, piece = divmod(left, PIECE)
        figures = str(piece).zfill(PIECE_FIGURES) + figures
    figures = str(left) + figures
    return "-" + figures if number < 0 else figures


def read_number(word):
    """The whole number that a text writes."""
    if not is_number(word):
        raise NoText("this writes no whole number")
    number = 0
    for figure in word.removeprefix("-"):
        number = number * 10 + int(figure)
    return -number if word.startswith("-") else number


def show_pair(pair):
    """A move or a cell, its two numbers with : between."""
    first, second = pair
    return show_number(first) + ":" + show_number(second)


def read_pair(word):
    """The tuple of the two numbers that a text writes with : between."""
    parts = word.split(":")
    if len(parts) != 2:
        raise NoText("this writes no step and no jump")
    return (read_number(parts[0]), read_number(parts[1]))


def show_row(numbers):
    """A row of the table."""
    return " ".join([show_number(number) for number in numbers])


def read_row(row):
    """The numbers of a row of the table."""
    return [read_number(word) for word in row.split(" ")]


def show_moves(title, moves):
    """The row of the steps or of the jumps."""
    return " ".join([title] + [show_pair(move) for move in moves])


def read_moves(title, row):
    """The moves in the row of the steps or of the jumps."""
    words = row.split(" ")
    if words[0] != title:
        raise NoText("this is not the row of the steps or of the jumps")
    return [read_pair(word) for word in words[1:]]


def show_land(land):
    """The writing of a land."""
    check_land(land)
    table, steps, jumps = land
    return "\n".join([show_row(row) for row in table] + [show_moves("steps", steps), show_moves("jumps", jumps)])


def read_land(text):
    """The land that a text writes."""
    if not isinstance(text, str):
        raise NoText("this is no text")
    rows = text.split("\n")
    if len(rows) < 3:
        raise NoText("there are too few rows")
    table = [read_row(row) for row in rows[:-2]]
    land = (table, read_moves("steps", rows[-2]), read_moves("jumps", rows[-1]))
    if not is_land(land):
        raise NoText("this writes no land")
    return land
