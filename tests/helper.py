"""What several test files need: lands, things that are none, and all ways listed one by one."""

import itertools
import random
import re

from climbways import errors

GREAT = 10 ** 26 - 1

RIGHT_AND_DOWN = [(0, 1), (1, 0)]
CROSS = [(-1, 0), (0, -1), (0, 1), (1, 0)]
SLANT = [(-1, -1), (-1, 1), (1, -1), (1, 1)]


# Steps lead along the row, jumps down the place.
MIXED = ([[1, 2, 3], [4, 5, 6], [7, 8, 9]], [(0, 1)], [(1, 0)])

JUMP_COUNTS = (0, 1, 2, 3, 40, GREAT)

REFUSALS = ("NoLand", "NoCell", "NoNumber", "NoWay", "NoWeights", "NoText", "NoName", "NoRow")

# All signs of which texts are promised to be made: from the blank to ~ but the per cent sign, tabs, line feeds.
SIGNS = [chr(code) for code in range(32, 127) if chr(code) != "%"] + ["\t", "\n"]

NUMBER_PATTERN = "(?:0|-?[1-9][0-9]*)"
MOVE_PATTERN = "(?: {0}:{0})".format(NUMBER_PATTERN)
LAND_PATTERN = re.compile("((?:{0}(?: {0})*\n)+)steps({1}*)\njumps({1}*)".format(NUMBER_PATTERN, MOVE_PATTERN))


class Bare:
    """An object of no kind that the document tells of."""


class Watched(int):
    """A number that counts how often it is compared, and stops a test that compares without end."""

    compared = 0
    most = 300000

    def count(self):
        Watched.compared += 1
        if Watched.compared > Watched.most:
            raise AssertionError("cells are reckoned anew for each way")

    def __gt__(self, other):
        self.count()
        return int(self) > int(other)

    def __lt__(self, other):
        self.count()
        return int(self) < int(other)

    def __ge__(self, other):
        self.count()
        return int(self) >= int(other)

    def __le__(self, other):
        self.count()
        return int(self) <= int(other)


def assert_refused(case, name, ask, *handed_in):
    """That an asking is refused with the error of this name, and with none of the others."""
    with case.assertRaises(ValueError) as caught:
        ask(*handed_in)
    case.assertIsInstance(caught.exception, errors.ClimbError)
    for other in REFUSALS:
        case.assertIs(isinstance(caught.exception, getattr(errors, other)), other == name, (other, handed_in))


def assert_all_lists_unlike(case, *told):
    """That no two of the lists, nor two within them, are one."""
    lists = []
    waiting = list(told)
    while waiting:
        thing = waiting.pop()
        if isinstance(thing, list):
            lists.append(thing)
        if isinstance(thing, (list, tuple)):
            waiting.extend(thing)
    case.assertEqual(len({id(one) for one in lists}), len(lists))


def other_kinds():
    """Things that are no land, no cell, no number, no way and no list of any of these."""
    return [
        None, True, False, "", "abc", "land", b"", b"ab", {}, {"a": 1}, {0: 0, 1: 0}, set(), {1, 2},
        frozenset(), object(), Bare(), Bare, len, int, range(2), iter([]), (), ((),), [[]], [None], (None,),
        ("a", "b"), [("a", "b")], (None, None), [(None, None)], ([], []), [{}, {}],
    ]


def cells_by_hand(land):
    table = land[0]
    return [(row, place) for row in range(len(table)) for place in range(len(table[0]))]


def led_by_hand(land, cell, moves):
    """Looks at every cell of the table, not at the moves in their order."""
    table = land[0]
    return sorted(
        there for there in cells_by_hand(land)
        if (there[0] - cell[0], there[1] - cell[1]) in moves
        and table[there[0]][there[1]] > table[cell[0]][cell[1]]
    )


def ways_by_hand(land):
    """All ways of a land, each as (way, jumps), listed one by one."""
    told = []
    open_ones = [([cell], 0) for cell in cells_by_hand(land)]
    while open_ones:
        way, jumps = open_ones.pop()
        told.append((way, jumps))
        for there in led_by_hand(land, way[-1], land[1]):
            open_ones.append((way + [there], jumps))
        for there in led_by_hand(land, way[-1], land[2]):
            open_ones.append((way + [there], jumps + 1))
    return told


def let_by_hand(land, j):
    """All ways of a land with at most j jumps, in the order of lists."""
    return sorted(way for way, jumps in ways_by_hand(land) if jumps <= j)


def longest_by_hand(land, j):
    """The longest ways of a land with at most j jumps, in the order of lists."""
    let = let_by_hand(land, j)
    length = max(len(way) for way in let)
    return [way for way in let if len(way) == length]


def is_land_by_hand(land):
    """Whether a tuple of a list of rows of numbers and of two lists of tuples of two numbers is a land."""
    table, steps, jumps = land
    if not 1 <= len(table) <= 6 or not 1 <= len(table[0]) <= 6 or len({len(row) for row in table}) > 1:
        return False
    if any(sorted(set(moves)) != moves or len(moves) > 8 for moves in (steps, jumps)):
        return False
    return all(move in all_moves(5) for move in steps + jumps) and not set(steps) & set(jumps)


def writing_by_hand(land):
    """The rows of a land one below the other."""
    table, steps, jumps = land
    text = ""
    for row in table:
        text += str(row)[1:-1].replace(",", "") + "\n"
    text += "steps" + "".join(" %d:%d" % move for move in steps) + "\n"
    return text + "jumps" + "".join(" %d:%d" % move for move in jumps)


def way_writing_by_hand(way):
    """The cells of a way as a desk tells them."""
    return " ".join("%d:%d" % cell for cell in way)


def in_row(text):
    """A writing as it stands in the rows of a desk."""
    return text.replace("\n", "/")


def read_by_hand(text):
    """The land that a text writes, or None."""
    parts = LAND_PATTERN.fullmatch(text)
    if parts is None:
        return None
    table = [[int(word) for word in row.split()] for row in parts[1].splitlines()]
    steps, jumps = ([tuple(map(int, word.split(":"))) for word in part.split()] for part in (parts[2], parts[3]))
    return (table, steps, jumps) if is_land_by_hand((table, steps, jumps)) else None


def changed_at_each_place(text):
    """The text with one sign left out, put in or exchanged."""
    for at in range(len(text) + 1):
        for sign in SIGNS:
            yield text[:at] + sign + text[at:]
    for at in range(len(text)):
        yield text[:at] + text[at + 1:]
        for sign in SIGNS:
            if sign != text[at]:
                yield text[:at] + sign + text[at + 1:]


def all_moves(reach):
    return [
        (down, right)
        for down in range(-reach, reach + 1) for right in range(-reach, reach + 1)
        if (down, right) != (0, 0)
    ]


def drawn_land(seed, most_rows=3, most_places=3, reach=2, most_moves=3):
    """A land that hangs on nothing but the seed."""
    draw = random.Random(seed)
    rows = draw.randint(1, most_rows)
    places = draw.randint(1, most_places)
    spread = draw.choice([2, 4, 9, 30])
    table = [[draw.randint(-spread, spread) for _ in range(places)] for _ in range(rows)]
    moves = all_moves(reach)
    draw.shuffle(moves)
    steps = draw.randint(0, most_moves)
    jumps = draw.randint(0, most_moves)
    return (table, sorted(moves[:steps]), sorted(moves[steps:steps + jumps]))


def small_lands():
    """Every table of two rows of two with numbers from 0 to 2, then drawn lands."""
    lands = []
    for numbers in itertools.product(range(3), repeat=4):
        table = [list(numbers[:2]), list(numbers[2:])]
        lands.append((table, [(0, 1), (1, -1)], [(-1, 0), (1, 0), (1, 1)]))
    return lands + [drawn_land(seed) for seed in range(120)]


def snake_land(as_jumps=False):
    """Six rows of six, with one way through all cells: right, down, left, down and so on."""
    table = []
    for row in range(6):
        numbers = list(range(6 * row, 6 * row + 6))
        table.append(numbers if row % 2 == 0 else numbers[::-1])
    moves = [(0, -1), (0, 1), (1, 0)]
    return (table, [], moves) if as_jumps else (table, moves, [])


def snake_way():
    way = []
    for row in range(6):
        places = range(6) if row % 2 == 0 else range(5, -1, -1)
        way.extend((row, place) for place in places)
    return way


def layered_land(of=int):
    """Six rows of six in twelve layers of three cells, half a row each, every layer to be gone through in turn.

    From the layer ahead each cell leads to all three of the next one, from the border to the border by a jump.
    """
    table = [[of(2 * row + place // 3) for place in range(6)] for row in range(6)]
    steps = [(0, 1), (0, 2), (0, 3), (0, 4), (1, -4), (1, -3), (1, -2), (1, -1)]
    return (table, steps, [(0, 5), (1, -5)])


def thronged_land(of=int):
    """Six rows of six with sixteen moves ahead from each cell, and so with more ways than can be gone one by one."""
    table = [[of(6 * row + place) for place in range(6)] for row in range(6)]
    ahead = [move for move in all_moves(3) if move > (0, 0)]
    return (table, ahead[0:16:2], ahead[1:16:2])


def layered_way(number):
    """With jumps enough the longest ways are numbered by one of three cells in each layer."""
    way = []
    for layer in range(11, -1, -1):
        way.append((layer // 2, 3 * (layer % 2) + number % 3))
        number //= 3
    return way[::-1]


def no_lands():
    """Things that are no lands, each with what is wrong with it."""
    table = [[1, 2], [3, 4]]
    eight = all_moves(1)
    wrong = {
        "a truth among the numbers": ([[1, True]], [], []),
        "False among the numbers": ([[False]], [], []),
        "a text among the numbers": ([[1, "2"]], [], []),
        "None among the numbers": ([[1, None]], [], []),
        "a list among the numbers": ([[1, [2]]], [], []),
        "a second row that is shorter": ([[1, 2], [3]], [], []),
        "a second row that is longer": ([[1, 2], [3, 4, 5]], [], []),
        "a last row that is shorter": ([[1, 2], [3, 4], [5]], [], []),
        "no row": ([], [], []),
        "seven rows": ([[1]] * 7, [], []),
        "a row of no place": ([[]], [], []),
        "a second row of no place": ([[1], []], [], []),
        "a row of seven places": ([[1] * 7], [], []),
        "a land that is a list": [table, [], []],
        "a table that is a tuple": (((1, 2), (3, 4)), [], []),
        "a table that is a tuple of lists": (([1, 2], [3, 4]), [], []),
        "rows that are tuples": ([(1, 2), (3, 4)], [], []),
        "a row that is a text": (["ab"], [], []),
        "a row that is a number": ([1], [], []),
        "a table that is a text": ("ab", [], []),
        "a table that is a dict": ({0: [1]}, [], []),
        "a table that is None": (None, [], []),
        "two parts": (table, []),
        "four parts": (table, [], [], []),
        "no part": (),
        "a table alone": table,
    }
    wrong.update({"%s, in the %s" % (why, place): land for why, place, land in wrong_moves(table, eight)})
    wrong["a move in both lists"] = (table, [(0, 1)], [(0, 1)])
    wrong["the last step is the first jump"] = (table, [(0, 1), (1, 0)], [(1, 0), (1, 1)])
    wrong["the first step is the last jump"] = (table, [(0, 1), (1, 0)], [(-1, 0), (0, 1)])
    return wrong


def wrong_moves(table, eight):
    moves = {
        "nine": sorted(eight + [(2, 2)]),
        "a move twice": [(0, 1), (0, 1)],
        "a move twice, apart": [(0, 1), (1, 0), (0, 1)],
        "falling": [(1, 0), (0, 1)],
        "falling in the second part": [(0, 1), (0, -1)],
        "falling at the end": [(-1, 0), (1, 0), (0, 1)],
        "(0, 0)": [(0, 0)],
        "(0, 0) among others": [(-1, 0), (0, 0), (1, 0)],
        "down 6": [(6, 0)],
        "right 6": [(0, 6)],
        "down -6": [(-6, 0)],
        "right -6": [(0, -6)],
        "down True": [(True, 0)],
        "right True": [(0, True)],
        "down False": [(False, 1)],
        "right False": [(1, False)],
        "a move of one part": [(1,)],
        "a move of three parts": [(1, 0, 0)],
        "a move of no part": [()],
        "a move that is a list": [[0, 1]],
        "a move that is a text": ["ab"],
        "a move that is a number": [1],
        "a move that is None": [None],
        "a move of texts": [("a", "b")],
        "a move with None": [(1, None)],
        "things that have no order": [(1, "a"), (1, 2)],
        "moves that have no order": [(0, 1), None],
        "a tuple of moves": ((0, 1),),
        "an empty tuple": (),
        "a dict of moves": {(0, 1): True},
        "a text": "",
        "None": None,
        "a number": 0,
    }
    for why, thing in moves.items():
        yield why, "steps", (table, thing, [])
        yield why, "jumps", (table, [], thing)


def no_cells(land):
    """Things that are no cells of a land."""
    rows = len(land[0])
    places = len(land[0][0])
    return other_kinds() + [
        (rows, 0), (0, places), (rows, places), (rows + 1, 0), (GREAT, 0), (0, GREAT),
        (-1, 0), (0, -1), (-1, -1), (-rows, 0), (0, -places), (-GREAT, 0),
        (True, 0), (0, True), (False, 0), (0, False), (False, False),
        [0, 0], (0,), (0, 0, 0), 0, "00", ("0", "0"), (0, None), (None, 0), ((0, 0),), ((0,), (0,)), {0: 0},
    ]


def no_jump_counts():
    """Things that are no numbers of jumps."""
    return other_kinds() + [-1, -2, -GREAT, "0", "1", [0], (0,), {0: 0}]


def no_sheets(rows, places):
    """Things that are no lists of so many rows of so many whole numbers."""
    def sheet(height=rows, width=places):
        return [[1] * width for _ in range(height)]

    wrong = other_kinds() + [
        0, 1, [], [1] * places, [[[1] * places]] * rows, sheet(rows - 1), sheet(rows + 1), sheet(rows + 6),
        sheet(rows, places - 1), sheet(rows, places + 1), sheet(rows, places + 6), tuple(sheet()),
        tuple(tuple(row) for row in sheet()), dict(enumerate(sheet())), str(sheet()), (sheet(),), [sheet()],
        (sheet(), [], []),
    ]
    for row in range(rows):
        for other in (tuple([1] * places), "1" * places, b"1" * places, None, 1, {0: 1}, [], [1] * (places + 1)):
            wrong.append(sheet()[:row] + [other] + sheet()[row + 1:])
        wrong.append(sheet()[:row] + [[1] * (places - 1)] + sheet()[row + 1:])
        for place in range(places):
            for other in (True, False, "1", b"1", None, [1], (1,), {1: 1}):
                one = sheet()
                one[row][place] = other
                wrong.append(one)
    return wrong


def no_texts():
    """Texts that write no land, each with what is wrong with it."""
    long = "9" * 900
    nine = " ".join("%d:%d" % move for move in all_moves(1)) + " 2:2"
    wrong = {
        "an empty text": "",
        "a blank": " ",
        "a line feed": "\n",
        "two line feeds": "\n\n",
        "no row of the table": "steps\njumps",
        "an empty row of the table": "\nsteps\njumps",
        "a row too few: no jumps": "1\nsteps",
        "a row too few: no steps": "1\njumps",
        "the table alone": "1",
        "a table of three rows alone": "1\n2\n3",
        "a line feed at the end": "1\nsteps\njumps\n",
        "a line feed ahead": "\n1\nsteps\njumps",
        "two line feeds between": "1\n\nsteps\njumps",
        "two line feeds between steps and jumps": "1\nsteps\n\njumps",
        "two blanks between numbers": "1  2\nsteps\njumps",
        "two blanks behind steps": "1\nsteps  0:1\njumps",
        "two blanks between steps": "1\nsteps 0:1  1:0\njumps",
        "a blank at the end of a row": "1 \nsteps\njumps",
        "a blank ahead in a row": " 1\nsteps\njumps",
        "a blank behind steps": "1\nsteps \njumps",
        "a blank ahead of steps": "1\n steps\njumps",
        "a blank behind a step": "1\nsteps 0:1 \njumps",
        "a blank behind jumps": "1\nsteps\njumps ",
        "a blank behind a jump": "1\nsteps\njumps 0:1 ",
        "a blank ahead of :": "1\nsteps 0 :1\njumps",
        "a blank behind :": "1\nsteps 0: 1\njumps",
        "a tab between numbers": "1\t2\nsteps\njumps",
        "a tab behind steps": "1\nsteps\t0:1\njumps",
        "a tab at the end": "1\nsteps\njumps\t",
        "a 0 ahead": "01\nsteps\njumps",
        "00": "00\nsteps\njumps",
        "a 0 ahead behind -": "-01\nsteps\njumps",
        "-0": "-0\nsteps\njumps",
        "-00": "-00\nsteps\njumps",
        "- alone": "-\nsteps\njumps",
        "- twice": "--1\nsteps\njumps",
        "- behind": "1-\nsteps\njumps",
        "- and a blank": "- 1\nsteps\njumps",
        "+": "+1\nsteps\njumps",
        "+0": "+0\nsteps\njumps",
        "_ between figures": "1_0\nsteps\njumps",
        "a point": "1.0\nsteps\njumps",
        "a comma": "1,2\nsteps\njumps",
        "a letter": "a\nsteps\njumps",
        "a figure and a letter": "1e1\nsteps\njumps",
        "figures to another base": "0x1\nsteps\njumps",
        "a truth": "True\nsteps\njumps",
        "a move in the table": "0:1\nsteps\njumps",
        "a 0 ahead in a step": "1\nsteps 00:1\njumps",
        "a 0 ahead behind :": "1\nsteps 0:01\njumps",
        "-0 in a step": "1\nsteps -0:1\njumps",
        "-0 behind :": "1\nsteps 1:-0\njumps",
        "+ in a step": "1\nsteps 0:+1\njumps",
        "nothing ahead of :": "1\nsteps :1\njumps",
        "nothing behind :": "1\nsteps 0:\njumps",
        ": alone": "1\nsteps :\njumps",
        "no :": "1\nsteps 01\njumps",
        ": twice": "1\nsteps 0::1\njumps",
        "a step of three": "1\nsteps 0:1:1\njumps",
        "steps with :": "1\nsteps: 0:1\njumps",
        "no blank behind steps": "1\nsteps0:1\njumps",
        "great letters": "1\nSteps\njumps",
        "step": "1\nstep\njumps",
        "jump": "1\nsteps\njump",
        "steps twice": "1\nsteps\nsteps",
        "jumps twice": "1\njumps\njumps",
        "steps and jumps exchanged": "1\njumps\nsteps",
        "steps and jumps exchanged, with moves": "1\njumps 0:1\nsteps 1:0",
        "steps and jumps ahead": "steps\njumps\n1",
        "a row of the table behind": "1\nsteps\njumps\n1",
        "a row of the table between": "1\nsteps\n1\njumps",
        "steps, jumps and steps": "1\nsteps\njumps\nsteps",
        "steps twice and jumps": "1\nsteps\nsteps\njumps",
        "rows in one": "1 steps jumps",
        "rows parted by /": "1/steps/jumps",
        "a second row that is shorter": "1 2\n3\nsteps\njumps",
        "a second row that is longer": "1\n2 3\nsteps\njumps",
        "a last row that is shorter": "1 2\n3 4\n5\nsteps\njumps",
        "seven rows": "1\n2\n3\n4\n5\n6\n7\nsteps\njumps",
        "seven numbers in a row": "1 2 3 4 5 6 7\nsteps\njumps",
        "nine steps": "1\nsteps " + nine + "\njumps",
        "nine jumps": "1\nsteps\njumps " + nine,
        "steps that fall": "1\nsteps 1:0 0:1\njumps",
        "steps that fall behind :": "1\nsteps 0:1 0:-1\njumps",
        "steps that fall, but rise as signs": "1\nsteps -1:0 -2:0\njumps",
        "jumps that fall": "1\nsteps\njumps 1:0 0:1",
        "a step twice": "1\nsteps 0:1 0:1\njumps",
        "a jump twice": "1\nsteps\njumps 0:1 0:1",
        "0:0 as a step": "1\nsteps 0:0\njumps",
        "0:0 as a jump": "1\nsteps\njumps -1:0 0:0",
        "one in both": "1\nsteps 0:1\njumps 0:1",
        "one in both, among others": "1\nsteps 0:1 1:0\njumps 1:0 1:1",
        "a step beyond 5 down": "1\nsteps 6:0\njumps",
        "a step beyond 5 right": "1\nsteps 0:6\njumps",
        "a step beyond -5": "1\nsteps -6:0\njumps",
        "a jump beyond 5": "1\nsteps\njumps 0:-6",
        "a very long number in a step": "1\nsteps 0:" + long + "\njumps",
        "a very long number in a jump": "1\nsteps\njumps -" + long + ":0",
        "a very long number with a 0 ahead": "0" + long + "\nsteps\njumps",
        "a very long number with a sign at the end": long + "+\nsteps\njumps",
        "a very long number alone": long,
        "very many zeros": "0" * 900 + "\nsteps\njumps",
    }
    return wrong
