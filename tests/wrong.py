"""Values of all kinds that are no orders, no numbers, no deeds, no words."""

from turnlines.errors import InvalidOrder, TurnError


def deep_list(depth):
    """Nest a list as deep as told."""
    value = []
    for _ in range(depth - 1):
        value = [value]
    return value


TURNED_40 = list(range(39, -1, -1))
TURNED_41 = list(range(40, -1, -1))

NOT_LISTS = [
    None, True, False, 0, 1, -1, 10 ** 30, "", "10", "ul", (), (1, 0), (2, 1, 0), {}, {1: 0, 0: 1},
    TurnError(), InvalidOrder([1, 0]),
]

NOT_ROWS = NOT_LISTS + [
    [], [0], [1], [True], [1, 1], [0, 0], [1, 2], [2, 0], [2, 2, 0], [3, 1, 0], [-1, 0], [1, -1], [10 ** 30, 0],
    [True, False], [1, False], [True, 0], [2, True, 0], ["1", "0"], [1, "0"], [1, None], [None, None],
    [(1,), 0], [[1], [0]], [[1, 0]], [[1, 0], [1, 0]], [{}, 0], [InvalidOrder(1), 0], deep_list(30), TURNED_41,
]

FALLING_ROWS = [[0, 1], [0, 2, 1], [1, 0, 2], [0, 1, 2], [1, 0, 3, 2], [2, 0, 1, 3], list(range(40))]

NOT_ORDERS = NOT_ROWS + FALLING_ROWS

NOT_WHOLE = [
    None, True, False, "", "3", "u", [], [3], (), (3,), {}, {3: 3}, TurnError(), InvalidOrder(3), deep_list(30),
]

NOT_DEEDS = [
    None, True, False, 0, 1, "", "U", "L", "x", "uu", "ul", "lu", " u", "u\n", "left", [], ["u"], ("u",), ("l", 1),
    {}, {"u": 1}, TurnError(), InvalidOrder("u"), deep_list(30),
]

NOT_WORDS = [
    None, True, False, 0, 1, "U", "x", "ux", "xu", "u l", " ", "ul\n", "\tul", "u" * 10001, "ul" * 5000 + "l",
    "x" * 10000, "u" * 9999 + "~", [], ["u"], ["u", "l"], (), ("u",), {}, {"u": 1}, TurnError(), InvalidOrder("u"),
    deep_list(30),
]

# No sets of an order of three letters.
NOT_SETS = [
    None, True, False, 0, 1, 2, 10 ** 29, "", "0", "ul", (), (0,), (0, 1), {}, {0: 1}, TurnError(), InvalidOrder([0]),
    [3], [-1], [0, 3], [-1, 0], [1, 0], [2, 1], [2, 1, 0], [0, 2, 1], [0, 0], [0, 1, 1], [2, 2], [True], [False],
    [0, True], [False, 1], [False, True], [None], ["0"], [0, "1"], [0, None], [(0,)], [[0]], [[], [0]], [{}],
    [10 ** 29], [-10 ** 29], [0, 1, 2, 3], [TurnError()], [0, TurnError()], deep_list(30),
]

# No lengths for an order of three letters.
NOT_LENGTHS = [
    None, True, False, 0, 1, 3, 10 ** 29, "", "111", "ul", (), (1, 1, 1), {}, {0: 1, 1: 1, 2: 1}, TurnError(),
    InvalidOrder([1, 1, 1]), [], [1], [1, 1], [1, 1, 1, 1], [0, 1, 1], [1, 0, 1], [1, 1, 0], [0, 0, 0], [-1, 1, 1],
    [1, 1, -1], [True, 1, 1], [1, 1, True], [1, False, 1], [True, True, True], [None, 1, 1], [1, None, 1],
    ["1", 1, 1], [1, 1, "1"], [(1,), 1, 1], [[1], [1], [1]], [[1, 1, 1]], [1, 1, [1]], [1, {}, 1], [1, 1, TurnError()],
    [-10 ** 29, 10 ** 29, 10 ** 29], deep_list(30),
]


def not_cells(many):
    """List values that are no cells of a line of so many cells."""
    return NOT_WHOLE + [-1, -2, -many, many, many + 1, 10 * many, 10 ** 29 + many, -10 ** 29]

NOT_RUNS = [
    None, True, False, 0, 1, 10 ** 29, "", "u", "ul", (), ("u", 1), (("u", 1),), {}, {"u": 1}, TurnError(),
    InvalidOrder([("u", 1)]), ["u"], [("u",)], [("u", 1, 1)], [()], [["u", 1]], [[("u", 1)]], [("u", 0)], [("u", -1)],
    [("u", True)], [("u", False)], [("u", None)], [("u", "1")], [("u", [1])], [("U", 1)], [("x", 1)], [("", 1)],
    [("ul", 1)], [(None, 1)], [(1, "u")], [(["u"], 1)], [(True, 1)], [("u", 1), ("u", 1)], [("l", 2), ("l", 1)],
    [("u", 1), ("l", 1), ("l", 1)], [("u", 1), ("l", 0)], [("l", 1), ["u", 1]], [("u", 1), None], [None],
    [("u", 1), ("l", 1), ("u", 0)], [("u", -10 ** 29)], [(TurnError(), 1)], [("u", TurnError())], [{"u": 1}], [1],
    deep_list(30),
]

# No tables for an order of two letters.
NOT_TABLES = [
    None, True, False, 0, 1, "", "11", (), ([1, 0], [0, 1]), {}, {0: [1, 0], 1: [0, 1]}, TurnError(), [], [[]],
    [[], []], [[1]], [[1, 0]], [[1, 0], [0, 1], [0, 0]], [[1], [0]], [[1, 0], [0]], [[1], [0, 1]],
    [[1, 0, 0], [0, 1, 0]],
    [[1, 0], [0, 1, 0]], [[1, 0, 0], [0, 1]], [(1, 0), (0, 1)], [[1, 0], (0, 1)], [(1, 0), [0, 1]], [[True, 0], [0, 1]],
    [[1, False], [0, 1]], [[1, 0], [0, True]], [[-1, 0], [0, 1]], [[1, 0], [0, -1]], [[1, -10 ** 29], [0, 1]],
    [[None, 0], [0, 1]], [["1", 0], [0, 1]], [[1, 0], [0, [1]]], [1, 0], [[1, 0], None], [None, [0, 1]], ["10", "01"],
    [[1, 0], "01"], [[1, 0], {0: 0, 1: 1}], [[1, 0], [0, TurnError()]], [[[1, 0], [0, 1]]], deep_list(30),
]
