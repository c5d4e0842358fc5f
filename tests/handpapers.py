"""Papers written by hand, for each why."""

from tests import samples

# Without meets; the rows are told by what they are of x, the first number taken, and y, the second.
WHYS = [
    (
        [
            ("take", 0), ("take", 1), ("take", 0), ("num", 2),  # 0 to 3: x, y, x, 2
            ("sum", 0, 1), ("sum", 1, 2), ("times", 4, 4),  # 4 to 6: x + y, y + x, (x + y)(x + y)
            ("times", 0, 0), ("times", 1, 1), ("times", 0, 1), ("times", 3, 9),  # 7 to 10: xx, yy, xy, 2 xy
            ("sum", 7, 8), ("sum", 11, 10),  # 11, 12: xx + yy, xx + yy + 2 xy
            ("same", 0, 1), ("same", 1, 2),  # 13, 14: x is y, y is x
            ("below", 0, 1), ("sum", 1, 1), ("below", 4, 16),  # 15 to 17: x is below y, 2 y, x + y is below 2 y
            ("pick", 0, (1, 3)), ("sum", 2, 10), ("pick", 19, (1, 3)),  # 18 to 20: by x, x + 2 xy, by that
            ("pick", 0, (4, 5)),  # 21: x + y, whatever x is
            ("same", 4, 5), ("num", 1), ("below", 4, 5),  # 22 to 24: 1, 1, 0
            ("pick", 10, (0, 1)), ("pick", 3, (0, 1, 4)),  # 25, 26: x, as 2 xy picks that; x + y, as 2 picks that
            ("same", 10, 23), ("tell", 27),  # 27, 28: 0, as 2 xy is never 1
            ("times", 23, 0), ("num", 0),  # 29, 30: x, 0
        ],
        ("end",),
    ),
]
WHYS_PAPER = [
    (2, 0, ("takes",)),
    (5, 4, ("sums", [5, 2], [4])),
    (12, 6, ("sums", [12, 11, 10, 3, 7, 8, 9], [6, 4])),
    (14, 13, ("tests", [2], [])),
    (17, 15, ("tests", [16, 4], [])),
    (20, 18, ("picks", [19, 2, 10, 3], [])),
    (21, 4, ("parts",)),
    (23, 22, ("sums", [23], [(22, [5])])),
    (25, 0, ("sums", [(25, [10, 3])], [])),
    (26, 4, ("sums", [(26, [3])], [])),
    (27, 24, ("sums", [(27, [10, 3, 23, (22, [5])])], [(24, [5])])),
    (29, 0, ("sums", [29, 23, (22, [5])], [])),
    (30, 24, ("sums", [30], [(24, [5])])),
]

COUNTERS_PAPER = [
    (5, 4, ("meets",)),
    (7, 4, ("meets",)),
    (10, 9, ("sums", [10, 5], [9])),
    (13, 9, ("sums", [13, 12, 7, 3, 2], [9, 2])),
    (14, 1, ("sums", [14, 5], [1])),
    (16, 15, ("sums", [16, 3, 5], [15, 7])),
]
STEADY_PAPER = [
    (3, 0, ("parts",)),
    (4, 0, ("parts",)),
    (5, 0, ("parts",)),
    (6, 0, ("parts",)),
    (8, 0, ("sums", [8, 2], [])),
    (9, 0, ("sums", [9, 5, 2], [])),
    (10, 0, ("sums", [10, 8, 2], [])),
]
MEETING_PAPER = [
    (4, 2, ("sums", [4], [2])),
    (7, 2, ("parts",)),
    (10, 8, ("meets",)),
    (11, 9, ("meets",)),
    (12, 0, ("parts",)),
    (15, 14, ("sums", [15, 11, 10], [14])),
]
JUMPED_PAPER = [(1, 0, ("parts",)), (2, 0, ("parts",))]
TURNING_PAPER = [
    (3, 0, ("parts",)),
    (4, 1, ("parts",)),
    (7, 0, ("parts",)),
    (8, 1, ("parts",)),
    (11, 10, ("sums", [11, 3, 4], [10, 8])),
]

# Each with the leasts that its program's rows have by it.
PAPERS = [
    (WHYS, WHYS_PAPER, [
        0, 1, 0, 3, 4, 4, 6, 7, 8, 9, 10, 11, 6, 13, 13, 15, 16, 15, 18, 19, 18, 4, 22, 22, 24, 0, 4, 24, None, 0, 24,
    ]),
    (samples.COUNTERS, COUNTERS_PAPER, samples.COUNTERS_NUMBERS),
    (samples.STEADY, STEADY_PAPER, samples.STEADY_NUMBERS),
    (samples.MEETING, MEETING_PAPER, samples.MEETING_NUMBERS),
    (samples.JUMPED, JUMPED_PAPER, [0, 0, 0, None]),
    (samples.TURNING, TURNING_PAPER, samples.TURNING_NUMBERS),
    (samples.UNLIKE, [], samples.UNLIKE_NUMBERS),
    (samples.BARE, [], []),
]
