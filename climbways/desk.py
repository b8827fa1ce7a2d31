"""A Desk: lands by names, and rows that ask for what the stages tell of them."""

from climbways.counted import count_longest, way_by
from climbways.errors import NoName, NoRow, NoText
from climbways.lands import check_cell, with_number
from climbways.longest import first_longest, greatest_length, height_of
from climbways.texts import is_figures, is_number, read_land, read_number, show_land, show_pair

MOST_LETTERS = 8

# The numbers behind the name, by the letters that the document has for them.
NUMBERS = {
    "cell": "RCX",
    "drop": "",
    "long": "J",
    "many": "J",
    "way": "J",
    "nth": "JN",
    "high": "JRC",
    "show": "",
}

MOST_FIGURES = {"R": 2, "C": 2, "J": 2, "N": 9, "X": 9}


def is_name(word):
    """Whether a text can be the name of a land."""
    return 1 <= len(word) <= MOST_LETTERS and all("a" <= sign <= "z" for sign in word)


def is_number_for(letter, word):
    """Whether a text can stand in a row where the document has this letter."""
    if letter == "X":
        return is_number(word) and len(word.removeprefix("-")) <= MOST_FIGURES[letter]
    return is_figures(word) and len(word) <= MOST_FIGURES[letter]


def is_land_row(parts):
    """Whether the first two words and all that is left hand in a land."""
    return len(parts) == 3 and parts[0] == "land" and is_name(parts[1])


def is_other_row(words):
    """Whether the words are a row that does not hand in a land."""
    if len(words) < 2 or words[0] not in NUMBERS or not is_name(words[1]):
        return False
    letters = NUMBERS[words[0]]
    numbers = words[2:]
    if len(numbers) != len(letters):
        return False
    return all(is_number_for(letter, word) for letter, word in zip(letters, numbers))


def read_in_row(text):
    """The land that a TEXT writes, which has / for each line feed."""
    if "\n" in text:
        raise NoText("a line feed writes nothing in a row")
    return read_land(text.replace("/", "\n"))


def show_in_row(land):
    """The writing of a land with / for each line feed."""
    return show_land(land).replace("\n", "/")


def show_way(way):
    """The cells of a way with blanks between."""
    return " ".join([show_pair(cell) for cell in way])


def answer_about(land, word, numbers):
    """The answer to a row that begins with this word and changes nothing."""
    if word == "show":
        return show_in_row(land)
    j = numbers[0]
    if word == "long":
        return str(greatest_length(land, j))
    if word == "many":
        return str(count_longest(land, j))
    if word == "way":
        return show_way(first_longest(land, j))
    if word == "nth":
        return show_way(way_by(land, j, numbers[1]))
    return str(height_of(land, j, (numbers[1], numbers[2])))


class Desk:
    """Has lands by names."""

    def __init__(self):
        self.lands = {}

    def say(self, row):
        """Do what a row asks for, and tell its answer."""
        if not isinstance(row, str):
            raise NoRow("this is no text")
        parts = row.split(" ", 2)
        if is_land_row(parts):
            self.lands[parts[1]] = read_in_row(parts[2])
            return "ok"
        words = row.split(" ")
        if not is_other_row(words):
            raise NoRow("this is no row that a desk knows")
        if words[1] not in self.lands:
            raise NoName("no land stands by this name")
        return self.answer(words[0], words[1], [read_number(word) for word in words[2:]])

    def answer(self, word, name, numbers):
        """Do what the row of this word asks for with the land of a name."""
        if word == "drop":
            del self.lands[name]
            return "ok"
        if word == "cell":
            self.put_number(name, (numbers[0], numbers[1]), numbers[2])
            return "ok"
        return answer_about(self.lands[name], word, numbers)

    def put_number(self, name, cell, number):
        """Give a cell of the land of a name a number."""
        check_cell(self.lands[name], cell)
        self.lands[name] = with_number(self.lands[name], cell, number)

    def names(self):
        """The names by which lands stand, in the order of letters."""
        return sorted(self.lands)
