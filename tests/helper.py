"""What several test files need: lands, things that are none, and all ways listed one by one."""

import itertools
import random

from climbways import errors

GREAT = 10 ** 26 - 1

RIGHT_AND_DOWN = [(0, 1), (1, 0)]
CROSS = [(-1, 0), (0, -1), (0, 1), (1, 0)]
SLANT = [(-1, -1), (-1, 1), (1, -1), (1, 1)]


# Steps lead along the row, jumps down the place.
MIXED = ([[1, 2, 3], [4, 5, 6], [7, 8, 9]], [(0, 1)], [(1, 0)])

JUMP_COUNTS = (0, 1, 2, 3, 40, GREAT)

REFUSALS = ("NoLand", "NoCell", "NoNumber", "NoWay", "NoWeights", "NoText", "NoName", "NoRow")


class Bare:
    """An object of no kind that the document tells of."""


class Watched(int):
    """A number that counts how often it is compared, and stops a test that compares without end."""

    compared = 0
    most = 300000

    def count(self):
        Watched.compared += 1
        if Watched.compared > Watched.most:
            raise AssertionError("cells are reckoned anew for each way")

    def __gt__(self, other):
        self.count()
        return int(self) > int(other)

    def __lt__(self, other):
        self.count()
        return int(self) < int(other)

    def __ge__(self, other):
        self.count()
        return int(self) >= int(other)

    def __le__(self, other):
        self.count()
        return int(self) <= int(other)


def assert_refused(case, name, ask, *handed_in):
    """That an asking is refused with the error of this name, and with none of the others."""
    with case.assertRaises(ValueError) as caught:
        ask(*handed_in)
    case.assertIsInstance(caught.exception, errors.ClimbError)
    for other in REFUSALS:
        case.assertIs(isinstance(caught.exception, getattr(errors, other)), other == name, (other, handed_in))


def assert_all_lists_unlike(case, *told):
    """That no two of the lists, nor two within them, are one."""
    lists = []
    waiting = list(told)
    while waiting:
        thing = waiting.pop()
        if isinstance(thing, list):
            lists.append(thing)
        if isinstance(thing, (list, tuple)):
            waiting.extend(thing)
    case.assertEqual(len({id(one) for one in lists}), len(lists))


def other_kinds():
    """Things that are no land, no cell, no number, no way and no list of any of these."""
    return [
        None, True, False, "", "abc", "land", b"", b"ab", {}, {"a": 1}, {0: 0, 1: 0}, set(), {1, 2},
        frozenset(), object(), Bare(), Bare, len, int, range(2), iter([]), (), ((),), [[]], [None], (None,),
        ("a", "b"), [("a", "b")], (None, None), [(None, None)], ([], []), [{}, {}],
    ]


def cells_by_hand(land):
    table = land[0]
    return [(row, place) for row in range(len(table)) for place in range(len(table[0]))]


def led_by_hand(land, cell, moves):
    """Looks at every cell of the table, not at the moves in their order."""
    table = land[0]
    return sorted(
        there for there in cells_by_hand(land)
        if (there[0] - cell[0], there[1] - cell[1]) in moves
        and table[there[0]][there[1]] > table[cell[0]][cell[1]]
    )


def ways_by_hand(land):
    """All ways of a land, each as (way, jumps), listed one by one."""
    told = []
    open_ones = [([cell], 0) for cell in cells_by_hand(land)]
    while open_ones:
        way, jumps = open_ones.pop()
        told.append((way, jumps))
        for there in led_by_hand(land, way[-1], land[1]):
            open_ones.append((way + [there], jumps))
        for there in led_by_hand(land, way[-1], land[2]):
            open_ones.append((way + [there], jumps + 1))
    return told


def let_by_hand(land, j):
    """All ways of a land with at most j jumps, in the order of lists."""
    return sorted(way for way, jumps in ways_by_hand(land) if jumps <= j)


def longest_by_hand(land, j):
    """The longest ways of a land with at most j jumps, in the order of lists."""
    let = let_by_hand(land, j)
    length = max(len(way) for way in let)
    return [way for way in let if len(way) == length]


def all_moves(reach):
    return [
        (down, right)
        for down in range(-reach, reach + 1) for right in range(-reach, reach + 1)
        if (down, right) != (0, 0)
    ]


def drawn_land(seed, most_rows=3, most_places=3, reach=2, most_moves=3):
    """A land that hangs on nothing but the seed."""
    draw = random.Random(seed)
    rows = draw.randint(1, most_rows)
    places = draw.randint(1, most_places)
    spread = draw.choice([2, 4, 9, 30])
    table = [[draw.randint(-spread, spread) for _ in range(places)] for _ in range(rows)]
    moves = all_moves(reach)
    draw.shuffle(moves)
    steps = draw.randint(0, most_moves)
    jumps = draw.randint(0, most_moves)
    return (table, sorted(moves[:steps]), sorted(moves[steps:steps + jumps]))


def small_lands():
    """Every table of two rows of two with numbers from 0 to 2, then drawn lands."""
    lands = []
    for numbers in itertools.product(range(3), repeat=4):
        table = [list(numbers[:2]), list(numbers[2:])]
        lands.append((table, [(0, 1), (1, -1)], [(-1, 0), (1, 0), (1, 1)]))
    return lands + [drawn_land(seed) for seed in range(120)]


def snake_land(as_jumps=False):
    """Six rows of six, with one way through all cells: right, down, left, down and so on."""
    table = []
    for row in range(6):
        numbers = list(range(6 * row, 6 * row + 6))
        table.append(numbers if row % 2 == 0 else numbers[::-1])
    moves = [(0, -1), (0, 1), (1, 0)]
    return (table, [], moves) if as_jumps else (table, moves, [])


def snake_way():
    way = []
    for row in range(6):
        places = range(6) if row % 2 == 0 else range(5, -1, -1)
        way.extend((row, place) for place in places)
    return way


def layered_land(of=int):
    """Six rows of six in twelve layers of three cells, half a row each, every layer to be gone through in turn.

    From the layer ahead each cell leads to all three of the next one, from the border to the border by a jump.
    """
    table = [[of(2 * row + place // 3) for place in range(6)] for row in range(6)]
    steps = [(0, 1), (0, 2), (0, 3), (0, 4), (1, -4), (1, -3), (1, -2), (1, -1)]
    return (table, steps, [(0, 5), (1, -5)])


def thronged_land(of=int):
    """Six rows of six with sixteen moves ahead from each cell, and so with more ways than can be gone one by one."""
    table = [[of(6 * row + place) for place in range(6)] for row in range(6)]
    ahead = [move for move in all_moves(3) if move > (0, 0)]
    return (table, ahead[0:16:2], ahead[1:16:2])


def layered_way(number):
    """With jumps enough the longest ways are numbered by one of three cells in each layer."""
    way = []
    for layer in range(11, -1, -1):
        way.append((layer // 2, 3 * (layer % 2) + number % 3))
        number //= 3
    return way[::-1]


def no_lands():
    """Things that are no lands, each with what is wrong with it."""
    table = [[1, 2], [3, 4]]
    eight = all_moves(1)
    wrong = {
        "a truth among the numbers": ([[1, True]], [], []),
        "False among the numbers": ([[False]], [], []),
        "a text among the numbers": ([[1, "2"]], [], []),
        "None among the numbers": ([[1, None]], [], []),
        "a list among the numbers": ([[1, [2]]], [], []),
        "a second row that is shorter": ([[1, 2], [3]], [], []),
        "a second row that is longer": ([[1, 2], [3, 4, 5]], [], []),
        "a last row that is shorter": ([[1, 2], [3, 4], [5]], [], []),
        "no row": ([], [], []),
        "seven rows": ([[1]] * 7, [], []),
        "a row of no place": ([[]], [], []),
        "a second row of no place": ([[1], []], [], []),
        "a row of seven places": ([[1] * 7], [], []),
        "a land that is a list": [table, [], []],
        "a table that is a tuple": (((1, 2), (3, 4)), [], []),
        "a table that is a tuple of lists": (([1, 2], [3, 4]), [], []),
        "rows that are tuples": ([(1, 2), (3, 4)], [], []),
        "a row that is a text": (["ab"], [], []),
        "a row that is a number": ([1], [], []),
        "a table that is a text": ("ab", [], []),
        "a table that is a dict": ({0: [1]}, [], []),
        "a table that is None": (None, [], []),
        "two parts": (table, []),
        "four parts": (table, [], [], []),
        "no part": (),
        "a table alone": table,
    }
    wrong.update({"%s, in the %s" % (why, place): land for why, place, land in wrong_moves(table, eight)})
    wrong["a move in both lists"] = (table, [(0, 1)], [(0, 1)])
    wrong["the last step is the first jump"] = (table, [(0, 1), (1, 0)], [(1, 0), (1, 1)])
    wrong["the first step is the last jump"] = (table, [(0, 1), (1, 0)], [(-1, 0), (0, 1)])
    return wrong


def wrong_moves(table, eight):
    moves = {
        "nine": sorted(eight + [(2, 2)]),
        "a move twice": [(0, 1), (0, 1)],
        "a move twice, apart": [(0, 1), (1, 0), (0, 1)],
        "falling": [(1, 0), (0, 1)],
        "falling in the second part": [(0, 1), (0, -1)],
        "falling at the end": [(-1, 0), (1, 0), (0, 1)],
        "(0, 0)": [(0, 0)],
        "(0, 0) among others": [(-1, 0), (0, 0), (1, 0)],
        "down 6": [(6, 0)],
        "right 6": [(0, 6)],
        "down -6": [(-6, 0)],
        "right -6": [(0, -6)],
        "down True": [(True, 0)],
        "right True": [(0, True)],
        "down False": [(False, 1)],
        "right False": [(1, False)],
        "a move of one part": [(1,)],
        "a move of three parts": [(1, 0, 0)],
        "a move of no part": [()],
        "a move that is a list": [[0, 1]],
        "a move that is a text": ["ab"],
        "a move that is a number": [1],
        "a move that is None": [None],
        "a move of texts": [("a", "b")],
        "a move with None": [(1, None)],
        "things that have no order": [(1, "a"), (1, 2)],
        "moves that have no order": [(0, 1), None],
        "a tuple of moves": ((0, 1),),
        "an empty tuple": (),
        "a dict of moves": {(0, 1): True},
        "a text": "",
        "None": None,
        "a number": 0,
    }
    for why, thing in moves.items():
        yield why, "steps", (table, thing, [])
        yield why, "jumps", (table, [], thing)


def no_cells(land):
    """Things that are no cells of a land."""
    rows = len(land[0])
    places = len(land[0][0])
    return other_kinds() + [
        (rows, 0), (0, places), (rows, places), (rows + 1, 0), (GREAT, 0), (0, GREAT),
        (-1, 0), (0, -1), (-1, -1), (-rows, 0), (0, -places), (-GREAT, 0),
        (True, 0), (0, True), (False, 0), (0, False), (False, False),
        [0, 0], (0,), (0, 0, 0), 0, "00", ("0", "0"), (0, None), (None, 0), ((0, 0),), ((0,), (0,)), {0: 0},
    ]


def no_jump_counts():
    """Things that are no numbers of jumps."""
    return other_kinds() + [-1, -2, -GREAT, "0", "1", [0], (0,), {0: 0}]


def no_sheets(rows, places):
    """Things that are no lists of so many rows of so many whole numbers."""
    def sheet(height=rows, width=places):
        return [[1] * width for _ in range(height)]

    wrong = other_kinds() + [
        0, 1, [], [1] * places, [[[1] * places]] * rows, sheet(rows - 1), sheet(rows + 1), sheet(rows + 6),
        sheet(rows, places - 1), sheet(rows, places + 1), sheet(rows, places + 6), tuple(sheet()),
        tuple(tuple(row) for row in sheet()), dict(enumerate(sheet())), str(sheet()), (sheet(),), [sheet()],
        (sheet(), [], []),
    ]
    for row in range(rows):
        for other in (tuple([1] * places), "1" * places, b"1" * places, None, 1, {0: 1}, [], [1] * (places + 1)):
            wrong.append(sheet()[:row] + [other] + sheet()[row + 1:])
        wrong.append(sheet()[:row] + [[1] * (places - 1)] + sheet()[row + 1:])
        for place in range(places):
            for other in (True, False, "1", b"1", None, [1], (1,), {1: 1}):
                one = sheet()
                one[row][place] = other
                wrong.append(one)
    return wrong
