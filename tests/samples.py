"""Right programs of many shapes, and graphs of blocks, for the tests."""

from itertools import combinations, product

# One block without rows: the least program.
BARE = [([], ("end",))]

# Each kind of row, one block.
ALL_ROWS = [
    (
        [
            ("take", 5),
            ("num", -7),
            ("sum", 0, 1),
            ("less", 2, 0),
            ("times", 3, 3),
            ("same", 4, 0),
            ("below", 0, 5),
            ("pick", 6, (0, 1, 0)),
            ("look", (3,), 7),
            ("look", (5, 0, 2, 1), 0),
            ("lay", (0, 1), 2, 9),
            ("tell", 9),
        ],
        ("end",),
    ),
]

# A choice whose ways meet.
CHOICE = [
    ([("take", 0), ("num", 1)], ("if", 0, 1, 2)),
    ([("sum", 0, 1)], ("go", 3)),
    ([("less", 0, 1), ("tell", 3)], ("go", 3)),
    ([("meet", (2, 3)), ("meet", (0, 3)), ("tell", 5)], ("end",)),
]

# A choice with the one way straight to where they meet.
SHORT_CUT = [
    ([("take", 0)], ("if", 0, 2, 1)),
    ([("num", 4)], ("go", 2)),
    ([("meet", (0, 1)), ("tell", 2)], ("end",)),
]

# A round: meets whose parts come behind them, and hang on one another.
ROUND = [
    ([("take", 0), ("num", 0), ("num", 1)], ("go", 1)),
    ([("meet", (1, 6)), ("meet", (0, 4)), ("below", 3, 0)], ("if", 5, 2, 3)),
    ([("sum", 3, 2)], ("go", 1)),
    ([("tell", 4)], ("end",)),
]

# A block that leads to itself: the second meet's part is that meet.
OWN_LEAD = [
    ([("take", 0)], ("go", 1)),
    ([("meet", (0, 3)), ("meet", (0, 2)), ("sum", 1, 2)], ("if", 3, 1, 2)),
    ([], ("end",)),
]

# A round in a round.
NESTED = [
    ([("take", 0), ("take", 1)], ("go", 1)),
    ([("meet", (0, 8))], ("go", 2)),
    ([("meet", (2, 4)), ("sum", 3, 1)], ("if", 4, 2, 3)),
    ([("less", 4, 1)], ("if", 5, 4, 5)),
    ([("tell", 5), ("num", 2), ("times", 7, 5)], ("go", 1)),
    ([("tell", 3)], ("end",)),
]

# A round that is jumped into: neither 1 nor 2 lies on all ways to the other.
JUMPED = [
    ([("take", 0)], ("if", 0, 1, 2)),
    ([("meet", (0, 2))], ("go", 2)),
    ([("meet", (0, 1))], ("if", 2, 1, 3)),
    ([("tell", 2)], ("end",)),
]

# Block 2 seems to hang from 1 until its greater lead 3 is looked at, and 4 then, too.
LATE_LEAD = [
    ([("take", 0)], ("if", 0, 1, 3)),
    ([("num", 1)], ("go", 2)),
    ([("meet", (1, 0))], ("go", 4)),
    ([], ("go", 2)),
    ([("tell", 2)], ("end",)),
]

# Several ends, and blocks without rows.
ENDS = [
    ([("take", 2)], ("if", 0, 1, 2)),
    ([], ("end",)),
    ([], ("if", 0, 3, 4)),
    ([("num", 3)], ("end",)),
    ([("tell", 0)], ("end",)),
]

# Rooms, laid into in a round.
ROOMS = [
    ([("take", 0), ("lay", (4,), 0, 0)], ("go", 1)),
    ([("look", (4, 5), 0), ("lay", (0, 1, 2), 2, 0)], ("if", 2, 1, 2)),
    ([("look", (1,), 2), ("tell", 4)], ("end",)),
]

# Without meets: sums, products, tests and picks that come to the same, and some that don't.
STRAIGHT = [
    (
        [
            ("take", 0), ("take", 1), ("take", 0), ("num", 2), ("num", 0),  # 0 to 4
            ("sum", 0, 1), ("sum", 1, 2), ("less", 0, 1), ("times", 5, 7),  # 5 to 8
            ("times", 0, 0), ("times", 1, 1), ("less", 9, 10),  # 9 to 11
            ("same", 0, 1), ("same", 6, 9), ("same", 1, 2),  # 12 to 14
            ("below", 5, 0), ("below", 1, 4), ("below", 4, 1), ("same", 5, 6),  # 15 to 18
            ("times", 3, 0), ("sum", 0, 2), ("pick", 19, (0, 1)), ("pick", 0, (5, 6)),  # 19 to 22
            ("sum", 19, 0), ("pick", 23, (1, 3)), ("pick", 0, (1, 3)), ("pick", 0, (3, 1)),  # 23 to 26
            ("num", 1), ("tell", 8), ("less", 3, 27), ("sum", 4, 1), ("less", 18, 27),  # 27 to 31
        ],
        ("end",),
    ),
]
STRAIGHT_NUMBERS = [
    0, 1, 0, 3, 4, 5, 5, 7, 8, 9, 10, 8, 12, 13, 12, 15, 15, 17, 18, 19, 19, 0, 5, 23, 24, 24, 26,
    18, None, 18, 1, 4,
]

# Meets of a choice: alike one by one, with one form in all parts, turned about, and unlike.
MEETING = [
    ([("take", 0), ("take", 1)], ("if", 0, 1, 2)),
    ([("sum", 0, 1), ("less", 0, 1)], ("go", 3)),
    ([("sum", 1, 0), ("less", 1, 0), ("num", 4)], ("go", 3)),
    (
        [
            ("meet", (2, 4)), ("meet", (3, 5)), ("meet", (2, 6)), ("meet", (3, 5)), ("meet", (2, 6)),  # 7 to 11
            ("meet", (0, 0)), ("meet", (1, 0)), ("sum", 8, 9), ("sum", 11, 10), ("less", 10, 8),  # 12 to 16
        ],
        ("end",),
    ),
]
MEETING_NUMBERS = [0, 1, 2, 3, 2, 5, 6, 2, 8, 9, 8, 9, 0, 13, 14, 14, 16]

# Two counters of a round that go in step, a third one that doesn't, and one with its step put otherwise.
COUNTERS = [
    ([("take", 0), ("num", 0), ("num", 1), ("num", 2)], ("go", 1)),
    (
        [
            ("meet", (1, 9)), ("meet", (1, 10)), ("meet", (1, 11)), ("meet", (1, 13)),  # 4 to 7
            ("below", 4, 0),  # 8
        ],
        ("if", 8, 2, 3),
    ),
    ([("sum", 4, 2), ("sum", 2, 5), ("sum", 6, 3), ("sum", 7, 3), ("less", 12, 2)], ("go", 1)),  # 9 to 13
    ([("less", 4, 5), ("sum", 4, 7), ("times", 3, 5), ("tell", 14)], ("end",)),  # 14 to 17
]
COUNTERS_NUMBERS = [0, 1, 2, 3, 4, 4, 6, 4, 8, 9, 9, 11, 12, 9, 1, 15, 15, None]

# Meets of a round whose parts come round as themselves, as alike rows, and as sums of noughts.
STEADY = [
    ([("take", 0), ("take", 1), ("num", 0)], ("go", 1)),
    (
        [
            ("meet", (0, 3)), ("meet", (0, 3)), ("meet", (0, 9)), ("meet", (0, 10)), ("meet", (1, 11)),  # 3 to 7
            ("sum", 0, 2),  # 8
        ],
        ("if", 4, 2, 3),
    ),
    ([("sum", 5, 2), ("less", 8, 2), ("sum", 7, 1)], ("go", 1)),  # 9 to 11
    ([("tell", 6), ("sum", 3, 7)], ("end",)),  # 12, 13
]
STEADY_NUMBERS = [0, 1, 2, 0, 0, 0, 0, 7, 0, 0, 0, 11, None, 13]

# A round in a round: what the inner one leaves alone is as in the outer one.
TWO_ROUNDS = [
    ([("take", 0), ("num", 1)], ("go", 1)),
    ([("meet", (0, 6)), ("meet", (0, 7))], ("go", 2)),  # 2, 3
    ([("meet", (2, 4)), ("meet", (3, 8)), ("sum", 4, 1), ("sum", 1, 5)], ("if", 4, 3, 4)),  # 4 to 7
    ([("less", 7, 1)], ("go", 2)),  # 8
    ([("tell", 6)], ("if", 0, 1, 5)),  # 9
    ([("less", 4, 5)], ("end",)),  # 10
]
TWO_ROUNDS_NUMBERS = [0, 1, 2, 2, 2, 2, 6, 6, 2, None, 10]

# A round jumped into from both sides; what goes round in it is the same, or isn't.
TURNING = [
    ([("take", 0), ("take", 1), ("num", 1)], ("if", 0, 1, 2)),
    ([("meet", (0, 7)), ("meet", (1, 8)), ("meet", (0, 9)), ("sum", 0, 2)], ("if", 4, 2, 3)),  # 3 to 6
    ([("meet", (0, 3)), ("meet", (1, 4)), ("meet", (0, 6)), ("sum", 8, 0)], ("go", 1)),  # 7 to 10
    ([("sum", 3, 4)], ("end",)),  # 11
]
TURNING_NUMBERS = [0, 1, 2, 0, 1, 5, 6, 0, 1, 9, 10, 10]

# Each row with a worth of its own.
UNLIKE = [
    ([("take", 0), ("take", 1), ("num", 3)], ("if", 0, 1, 2)),
    ([("sum", 0, 1)], ("go", 3)),
    ([("times", 0, 1)], ("go", 3)),
    ([("meet", (3, 4)), ("meet", (0, 4)), ("tell", 5), ("below", 5, 6), ("pick", 6, (5, 0))], ("end",)),
]
UNLIKE_NUMBERS = [0, 1, 2, 3, 4, 5, 6, None, 8, 9]

# Programs with the number of each of their rows.
NUMBERED = [
    (STRAIGHT, STRAIGHT_NUMBERS), (MEETING, MEETING_NUMBERS), (COUNTERS, COUNTERS_NUMBERS),
    (STEADY, STEADY_NUMBERS), (TWO_ROUNDS, TWO_ROUNDS_NUMBERS), (TURNING, TURNING_NUMBERS), (UNLIKE, UNLIKE_NUMBERS),
    (BARE, []), (CHOICE, [0, 1, 2, 3, None, 5, 6, None]), (SHORT_CUT, [0, 1, 2, None]),
    (ROUND, [0, 1, 2, 3, 0, 5, 6, None]), (OWN_LEAD, [0, 1, 0, 3]), (JUMPED, [0, 0, 0, None]),
    (NESTED, [0, 1, 2, 3, 4, 3, None, 7, 8, None]), (LATE_LEAD, [0, 1, 2, None]), (ENDS, [0, 1, None]),
]

# Beyond the bounds that other functions have: numbers, a pick's parts, and how many blocks.
GREAT = [([("num", 10 ** 50), ("num", -(10 ** 5000)), ("pick", 1, (0, 1) * 600)], ("go", 1))]
GREAT += [([], ("go", block + 1)) for block in range(1, 3000)]
GREAT += [([("tell", 2)], ("end",))]

SMALL = [BARE, ALL_ROWS, CHOICE, SHORT_CUT, ROUND, OWN_LEAD, NESTED, JUMPED, LATE_LEAD, ENDS, ROOMS]


def ends_to(blocks):
    """Each end that names some of these blocks, but those that are only turned around."""
    ends = [("end",)]
    ends += [("go", block) for block in blocks]
    return ends + [("if", 0, one, other) for one, other in combinations(blocks, 2)]


def is_led(ends):
    """Whether each block but 0 has a lead with a lesser number."""
    return all(any(block in end for end in ends[:block]) for block in range(1, len(ends)))


def all_graphs(many):
    """Programs of so many blocks, with each graph that a right one can have; the one row is row 0."""
    for ends in product(ends_to(range(1, many)), repeat=many):
        # A place in a tuple ("if", 0, ..) can't be mistaken for a block: no end names block 0.
        if is_led(ends):
            yield [([("take", 0)] if block == 0 else [], end) for block, end in enumerate(ends)]


def some_graphs(many, count):
    """So many of such programs of more blocks, drawn by a fixed rule."""
    state = 12345 + many

    def drawn(below):
        nonlocal state
        state = (state * 1103515245 + 12345) % 2 ** 31
        return (state >> 12) % below

    for k in range(count):
        named = [[] for block in range(many)]
        for block in range(1, many):
            free = [lead for lead in range(block) if len(named[lead]) < 2]
            named[free[drawn(len(free))]].append(block)
        for blocks in named:
            other = 1 + drawn(2 * many)
            if len(blocks) < 2 and other < many and other not in blocks:
                blocks.append(other)
        ends = [[("end",), ("go", *blocks), ("if", 0, *blocks)][len(blocks)] for blocks in named]
        yield [([("take", 0)] if block == 0 else [], end) for block, end in enumerate(ends)]


def with_a_row_each(program):
    """The same graph with just one row in each block, so that a row's number is its block's."""
    return [([("num", block)], end) for block, (rows, end) in enumerate(program)]
