import unittest
from copy import deepcopy

from sameworth.counts import way_of
from sameworth.numbering import numbers_of
from sameworth.programs import is_plain, is_program
from sameworth.roomless import numbers_with_rooms, roomless
from sameworth.runs import run
from tests import drawn, oracle, samples, slowrooms
from tests.owning import check_own

# One room: looked at ahead of all lays, laid into, looked at behind; the look's worth is used.
SINGLE = [
    (
        [
            ("take", 0), ("look", (3,), 0), ("lay", (3,), 0, 0), ("look", (3,), 1), ("sum", 1, 3), ("lay", (3,), 0, 4),
            ("look", (3,), 3), ("tell", 6),
        ],
        ("end",),
    ),
]
SINGLE_MADE = ([([("num", 0), ("take", 0), ("sum", 0, 1), ("tell", 2)], ("end",))], [1, 0, None, 1, 2, None, 2, 3])

# Two to four rooms: looked at, laid into in the order told, and again.
SEVERAL = [
    (
        [
            ("take", 0), ("num", 7), ("look", (5, 1), 0), ("lay", (5, 1), 0, 1), ("look", (1, 5), 2),
            ("lay", (1, 0, 4), 1, 0), ("look", (0, 1, 4, 5), 4), ("lay", (4, 5, 0, 1), 0, 6), ("look", (0,), 0),
        ],
        ("if", 8, 1, 2),
    ),
    ([("tell", 6)], ("end",)),
    ([("look", (5,), 8), ("tell", 10)], ("end",)),
]
SEVERAL_MADE = (
    [
        (
            [
                ("num", 0), ("take", 0), ("num", 7), ("pick", 1, (0, 0)),  # 0 to 3
                ("pick", 1, (2, 0)), ("pick", 1, (0, 2)), ("pick", 3, (5, 4)),  # rooms 5 and 1 are 4 and 5
                ("pick", 2, (1, 5, 5)), ("pick", 2, (0, 1, 0)), ("pick", 2, (0, 0, 1)),  # rooms 1, 0, 4: 7, 8, 9
                ("pick", 6, (8, 7, 9, 4)),  # 10
                ("pick", 1, (10, 9, 9, 9)), ("pick", 1, (4, 10, 4, 4)),  # rooms 4, 5: 11, 12
                ("pick", 1, (8, 8, 10, 8)), ("pick", 1, (7, 7, 7, 10)),  # rooms 0, 1: 13, 14
            ],
            ("if", 13, 1, 2),
        ),
        ([("tell", 10)], ("end",)),
        ([("tell", 12)], ("end",)),
    ],
    [1, 2, 3, None, 6, None, 10, None, 13, 15, 12, 16],
)

# A choice and a round, with meets of their own; room 2 is touched on one way only, room 4 never.
ROUNDS = [
    ([("take", 0), ("take", 1), ("lay", (2,), 0, 1)], ("if", 0, 1, 2)),
    ([("look", (2,), 0), ("lay", (0,), 0, 3)], ("go", 3)),
    ([("lay", (2,), 0, 0)], ("go", 3)),
    ([("meet", (1, 0, 6)), ("sum", 6, 1), ("look", (4,), 0), ("look", (0,), 0)], ("if", 7, 3, 4)),
    ([("lay", (4,), 0, 9), ("look", (2,), 6), ("tell", 11)], ("end",)),
]
ROUNDS_MADE = (
    [
        ([("num", 0), ("take", 0), ("take", 1)], ("if", 1, 1, 2)),
        ([], ("go", 3)),
        ([], ("go", 3)),
        (
            [("meet", (2, 1, 3)), ("meet", (2, 0, 4)), ("meet", (2, 1, 5)), ("meet", (0, 0, 6)), ("sum", 3, 2)],
            ("if", 7, 3, 4),
        ),
        ([("tell", 5)], ("end",)),
    ],
    [1, 2, None, 2, None, None, 3, 7, 6, 4, None, 5, 8],
)

# A look in block 0 alone: its room's meets come in all the same.
LOOK_ALONE = [
    ([("take", 0), ("look", (1,), 0)], ("if", 0, 1, 2)),
    ([], ("go", 2)),
    ([("tell", 1)], ("end",)),
]
LOOK_ALONE_MADE = (
    [([("num", 0), ("take", 0)], ("if", 1, 1, 2)), ([], ("go", 2)), ([("meet", (0, 0)), ("tell", 0)], ("end",))],
    [1, 0, 3],
)

MADE = [(SINGLE, SINGLE_MADE), (SEVERAL, SEVERAL_MADE), (ROUNDS, ROUNDS_MADE), (LOOK_ALONE, LOOK_ALONE_MADE)]
PLAIN = [program for program, numbers in samples.NUMBERED]
WITH_ROOMS = [program for program, made in MADE] + [samples.ALL_ROWS, samples.ROOMS]


def drawn_ones():
    return list(drawn.programs(301, 500, rooms=True, times=1)) + list(drawn.programs(302, 40, 9, 6, rooms=True, times=0))


class Made(unittest.TestCase):
    def test_samples(self):
        for program, made in MADE:
            with self.subTest(program=program):
                self.assertEqual(slowrooms.roomless(program), made)
                self.assertEqual(roomless(program), made)

    def test_without_rooms_its_the_same_program(self):
        for program in PLAIN:
            self.assertEqual(roomless(program), (program, list(range(len(oracle.rows_in(program))))))

    def test_by_the_words(self):
        meets = 0
        for program in WITH_ROOMS + drawn_ones() + list(drawn.programs(303, 50)):
            made, bearers = roomless(program)
            self.assertEqual((made, bearers), slowrooms.roomless(program), program)
            meets += sum(row[0] == "meet" for row in oracle.rows_in(made))
        self.assertGreater(meets, 500)

    def test_right_and_plain(self):
        for program in WITH_ROOMS + PLAIN + drawn_ones():
            made, bearers = roomless(program)
            self.assertIs(oracle.is_program(made) and is_program(made), True)
            self.assertIs(is_plain(made), True)
            self.assertEqual([[word for word in end[:1]] + list(oracle.named_by(end)) for rows, end in made],
                             [[word for word in end[:1]] + list(oracle.named_by(end)) for rows, end in program])
            self.assertEqual(roomless(made), (made, list(range(len(oracle.rows_in(made))))))

    def test_bearers(self):
        for program in WITH_ROOMS + drawn_ones():
            made, bearers = roomless(program)
            rows, made_rows = oracle.rows_in(program), oracle.rows_in(made)
            for row, bearer in zip(rows, bearers, strict=True):
                if row[0] == "lay":
                    self.assertIsNone(bearer)
                elif row[0] != "look":
                    self.assertEqual(made_rows[bearer][0], row[0])
                elif len(row[1]) > 1:
                    self.assertEqual(made_rows[bearer][0], "pick")
                    self.assertEqual(len(made_rows[bearer][2]), len(row[1]))

    def test_kinds(self):
        for program in WITH_ROOMS + PLAIN:
            told = roomless(program)
            self.assertEqual([type(thing) for thing in told], [list, list])
            self.assertIs(type(told), tuple)
            for block in told[0]:
                self.assertEqual((type(block), type(block[0]), type(block[1])), (tuple, list, tuple))

    def test_askers_own(self):
        for program in WITH_ROOMS + PLAIN:
            check_own(self, roomless, deepcopy(program))
            check_own(self, numbers_with_rooms, deepcopy(program))


class AlongRuns(unittest.TestCase):
    def rounds(self, program, takes, most):
        done, begin = run(program, takes, most)[2], 0
        for block in way_of(program, takes, most):
            end = begin + len(program[block][0])
            yield block, done[begin:end]
            begin = end

    def test_tells_the_same(self):
        ended = 0
        for program in WITH_ROOMS + drawn_ones():
            made, bearers = roomless(program)
            for takes in drawn.takes(304, 4):
                state, told, done = run(program, takes, 150)
                if state == "ended":
                    ended += 1
                    self.assertEqual(run(made, takes, 20000)[:2], ("ended", told), (program, takes))
                    self.assertEqual(way_of(made, takes, 20000), way_of(program, takes, 150))
        self.assertGreater(ended, 1000)

    def test_bearers_have_the_same_worths(self):
        compared = 0
        for program in WITH_ROOMS + drawn_ones():
            made, bearers = roomless(program)
            for takes in drawn.takes(305, 2):
                if run(program, takes, 150)[0] != "ended":
                    continue
                last, made_last = {}, {}
                for one, other in zip(self.rounds(program, takes, 150), self.rounds(made, takes, 20000), strict=True):
                    self.assertEqual(one[0], other[0])
                    last.update(one[1])
                    made_last.update(other[1])
                    for row, worth in one[1]:
                        if worth is not None:
                            self.assertEqual(made_last[bearers[row]], worth, (program, takes, row))
                            compared += 1
                    for row, worth in last.items():
                        if worth is not None and oracle.owners_in(program)[row] in oracle.above(program)[one[0]]:
                            self.assertEqual(made_last[bearers[row]], worth, (program, takes, row))
        self.assertGreater(compared, 1000)


class Numbers(unittest.TestCase):
    def test_samples(self):
        self.assertEqual(numbers_with_rooms(SINGLE), [0, 1, None, 0, 0, None, 0, None])
        self.assertEqual(numbers_with_rooms(LOOK_ALONE), [0, 1, None])
        self.assertEqual(numbers_with_rooms(ROUNDS), [0, 1, None, 1, None, None, 6, 7, 8, 9, None, 6, None])

    def test_a_room_that_no_write_has_touched(self):
        program = [
            ([("take", 0), ("take", 1), ("lay", (2,), 0, 1), ("look", (2,), 0)], ("go", 1)),
            ([("meet", (0, 7)), ("look", (2,), 0), ("lay", (3,), 0, 4), ("sum", 4, 1)], ("if", 7, 1, 2)),
            ([("look", (2,), 0), ("look", (3,), 0), ("look", (5,), 0), ("num", 0), ("tell", 8)], ("end",)),
        ]
        self.assertEqual(numbers_with_rooms(program), [0, 1, None, 1, 4, 1, None, 7, 1, 4, 10, 10, None])

    def test_by_the_words(self):
        looks = 0
        for program in WITH_ROOMS + PLAIN + drawn_ones():
            made, bearers = slowrooms.roomless(program)
            numbers, rows = numbers_of(made), oracle.rows_in(program)
            told = numbers_with_rooms(program)
            self.assertIs(type(told), list)
            for row, least in enumerate(told):
                if rows[row][0] in ("lay", "tell"):
                    self.assertIsNone(least)
                    continue
                alike = [o for o in oracle.with_worth(program) if numbers[bearers[o]] == numbers[bearers[row]]]
                self.assertEqual(least, alike[0], (program, row))
                looks += rows[row][0] == "look" and least != row
        self.assertGreater(looks, 150)

    def test_plain_ones(self):
        for program, numbers in samples.NUMBERED:
            self.assertEqual(numbers_with_rooms(program), numbers)


if __name__ == "__main__":
    unittest.main()
