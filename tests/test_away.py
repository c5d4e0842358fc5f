import unittest
from copy import deepcopy

from sameworth.away import taken_away
from sameworth.counts import reckoned
from sameworth.homes import there_at
from sameworth.numbering import numbers_of
from sameworth.roomless import roomless
from sameworth.runs import run
from tests import drawn, oracle, samples
from tests.bearing import Made
from tests.owning import check_own
from tests.slowputs import RECKONINGS
from tests.slowthere import there_at as slow_there_at
from tests.test_homes import AGAIN, TWO_WAYS

PLAIN = [program for program, numbers in samples.NUMBERED] + [TWO_WAYS, AGAIN]

# Three ways, two of them without meets between; a sum of the sum, and a test of it; tells.
THREE_WAYS = [
    ([("take", 0), ("take", 1)], ("if", 0, 1, 2)),
    ([("sum", 0, 1), ("times", 2, 2), ("tell", 3)], ("go", 5)),  # 2 to 4
    ([("sum", 1, 0), ("times", 5, 5)], ("if", 5, 3, 4)),  # 5, 6
    ([("sum", 0, 1)], ("go", 5)),  # 7
    ([("tell", 6)], ("go", 5)),  # 8
    ([("meet", (0, 7, 1)), ("sum", 0, 1), ("times", 10, 10), ("tell", 11), ("sum", 9, 10)], ("if", 10, 6, 7)),  # 9 to 13
    ([("sum", 13, 9), ("sum", 9, 10)], ("end",)),  # 14, 15
    ([("tell", 13), ("times", 10, 10), ("tell", 17)], ("end",)),  # 16 to 18
]
THREE_WAYS_MADE = (
    [
        ([("take", 0), ("take", 1)], ("if", 0, 1, 2)),
        ([("sum", 0, 1), ("times", 2, 2), ("tell", 3)], ("go", 5)),  # 2 to 4
        ([("sum", 1, 0), ("times", 5, 5)], ("if", 5, 3, 4)),  # 5, 6
        ([], ("go", 5)),
        ([("tell", 6)], ("go", 5)),  # 7
        ([("meet", (0, 5, 1)), ("meet", (2, 5, 5)), ("meet", (3, 6, 6)), ("tell", 10), ("sum", 8, 9)], ("if", 9, 6, 7)),
        ([("sum", 12, 8)], ("end",)),  # 13
        ([("tell", 12), ("tell", 10)], ("end",)),  # 14, 15
    ],
    [0, 1, 2, 3, 4, 5, 6, 5, 7, 8, 9, 10, 11, 12, 13, 12, 14, 10, 15],
)

# A round whose rows are there: the meet that would come in at its head is brought itself and one row.
HELD_ROUND = [
    ([("take", 0), ("take", 1), ("sum", 0, 1)], ("go", 1)),
    ([("meet", (0, 5)), ("sum", 1, 0)], ("if", 4, 2, 3)),  # 3, 4
    ([("less", 3, 4), ("sum", 0, 1)], ("go", 1)),  # 5, 6
    ([("sum", 0, 1), ("tell", 7)], ("end",)),  # 7, 8
]
HELD_ROUND_MADE = (
    [
        ([("take", 0), ("take", 1), ("sum", 0, 1)], ("go", 1)),
        ([("meet", (0, 4))], ("if", 2, 2, 3)),
        ([("less", 3, 2)], ("go", 1)),
        ([("tell", 2)], ("end",)),
    ],
    [0, 1, 2, 3, 2, 4, 2, 2, 5],
)

# What is there in a round comes by unlike rows each time: a meet that is its own part comes in.
BROUGHT_ROUND = [
    ([("take", 0), ("take", 1)], ("if", 0, 1, 2)),
    ([("sum", 0, 1)], ("go", 3)),
    ([("sum", 0, 1)], ("go", 3)),
    ([("meet", (0, 1, 4))], ("if", 4, 4, 5)),  # 4
    ([("sum", 0, 1), ("tell", 5)], ("go", 3)),  # 5, 6
    ([("sum", 1, 0), ("tell", 7)], ("end",)),  # 7, 8
]
BROUGHT_ROUND_MADE = (
    [
        ([("take", 0), ("take", 1)], ("if", 0, 1, 2)),
        ([("sum", 0, 1)], ("go", 3)),
        ([("sum", 0, 1)], ("go", 3)),
        ([("meet", (0, 1, 4)), ("meet", (2, 3, 5))], ("if", 4, 4, 5)),
        ([("tell", 5)], ("go", 3)),
        ([("tell", 5)], ("end",)),
    ],
    [0, 1, 2, 3, 4, 5, 6, 5, 7],
)

SAMPLES = [(THREE_WAYS, THREE_WAYS_MADE), (HELD_ROUND, HELD_ROUND_MADE), (BROUGHT_ROUND, BROUGHT_ROUND_MADE)]


def gone_from(program):
    """The reckonings whose worth is there at them on all ways."""
    rows = oracle.rows_in(program)
    return [row for row, there in enumerate(slow_there_at(program)) if there and rows[row][0] in RECKONINGS]


def drawn_ones():
    ones = list(drawn.programs(701, 400, 7, 5, times=1)) + list(drawn.programs(702, 200, 7, 5, times=1, tested=True))
    return ones + list(drawn.programs(703, 15, 15, 6, times=0))


class Told(unittest.TestCase):
    def test_samples(self):
        for program, told in SAMPLES:
            with self.subTest(program=program):
                self.assertTrue(oracle.is_program(program))
                self.assertEqual(taken_away(program), told)

    def test_nothing_to_take_away(self):
        for program in (samples.BARE, samples.UNLIKE, samples.SHORT_CUT, samples.CHOICE, samples.ENDS):
            self.assertEqual(taken_away(program), (program, list(range(len(oracle.rows_in(program))))))

    def test_takes_nums_and_meets_stay(self):
        program = [
            ([("take", 0), ("num", 3), ("take", 0), ("num", 3), ("sum", 0, 1), ("sum", 2, 3)], ("if", 5, 1, 2)),
            ([], ("go", 2)),
            ([("meet", (4, 5)), ("meet", (0, 1)), ("meet", (2, 3)), ("sum", 7, 3), ("sum", 1, 8)], ("end",)),
        ]
        self.assertEqual(taken_away(program), (
            [
                ([("take", 0), ("num", 3), ("take", 0), ("num", 3), ("sum", 0, 1)], ("if", 4, 1, 2)),
                ([], ("go", 2)),
                ([("meet", (4, 4)), ("meet", (0, 1)), ("meet", (2, 3)), ("sum", 6, 3)], ("end",)),
            ],
            [0, 1, 2, 3, 4, 4, 5, 6, 7, 8, 8],
        ))

    def test_reckonings_that_come_to_nothing(self):
        # 2 and 3 are alike with what is taken, 5 with a number.
        program = [
            ([("take", 0), ("num", 0), ("sum", 0, 1), ("less", 2, 1), ("tell", 3), ("less", 3, 0), ("tell", 5)], ("end",)),
        ]
        made = [([("take", 0), ("num", 0), ("tell", 0), ("tell", 1)], ("end",))]
        self.assertEqual(taken_away(program), (made, [0, 1, 0, 0, 2, 1, 3]))

    def test_no_meet_comes_in_that_isnt_needed(self):
        came = 0
        for program in drawn_ones():
            made, bearers = taken_away(program)
            rows = oracle.rows_in(made)
            meets = {bearers[row] for row, what in enumerate(oracle.rows_in(program)) if what[0] == "meet"}
            new = [row for row, what in enumerate(rows) if what[0] == "meet" and row not in meets]
            named = {part for row, what in enumerate(rows) for part in drawn.names_of(what) if part != row}
            named |= {end[1] for block, end in made if end[0] == "if"} | set(bearers)
            for row in new:
                self.assertIn(row, named)
                self.assertGreater(len(set(rows[row][1]) - {row}), 1)
            came += len(new)
        self.assertGreater(came, 20)


class Made16(unittest.TestCase):
    def test_what_is_made(self):
        for program in PLAIN + [program for program, told in SAMPLES] + drawn_ones():
            Made(self, program, taken_away(program), gone_from(program)).check()

    def test_along_runs(self):
        ended = 0
        for program in PLAIN + [program for program, told in SAMPLES] + drawn_ones():
            made = Made(self, program, taken_away(program), gone_from(program))
            for takes in drawn.takes(704, 4):
                ended += made.check_run(takes)
        self.assertGreater(ended, 1000)

    def test_no_more_is_reckoned(self):
        less = 0
        for program in PLAIN + drawn_ones():
            made, bearers = taken_away(program)
            for takes in drawn.takes(705, 2):
                state, told, done = run(program, takes, 150)
                if state == "ended":
                    made_done = run(made, takes, 22000)[2]
                    self.assertLessEqual(reckoned(made, made_done), reckoned(program, done))
                    less += reckoned(made, made_done) < reckoned(program, done)
        self.assertGreater(less, 200)

    def test_nothing_is_left_to_take_away(self):
        for program in PLAIN + drawn_ones():
            made, bearers = taken_away(program)
            rows = oracle.rows_in(made)
            left = [row for row, there in enumerate(there_at(made)) if there and rows[row][0] in RECKONINGS]
            self.assertEqual(left, [])
            self.assertEqual(taken_away(made), (made, list(range(len(rows)))))

    def test_of_programs_made_without_rooms(self):
        for program in drawn.programs(708, 80, 6, 5, rooms=True, times=1):
            made = roomless(program)[0]
            checked = Made(self, made, taken_away(made), gone_from(made))
            checked.check()
            for takes in drawn.takes(709, 2):
                checked.check_run(takes)

    def test_askers_own(self):
        for program in PLAIN + [program for program, told in SAMPLES]:
            made, bearers = check_own(self, taken_away, deepcopy(program))
            self.assertEqual([type(block) for block in made], [tuple] * len(made))
            self.assertEqual([(type(rows), type(end)) for rows, end in made], [(list, tuple)] * len(made))
        self.assertIs(type(taken_away(samples.BARE)), tuple)

    def test_numbers_of_bearers(self):
        for program, (made, bearers) in SAMPLES:
            numbers, made_numbers = numbers_of(program), numbers_of(made)
            for one in oracle.with_worth(program):
                for other in oracle.with_worth(program):
                    alike = made_numbers[bearers[one]] == made_numbers[bearers[other]]
                    self.assertEqual(numbers[one] == numbers[other], alike)


if __name__ == "__main__":
    unittest.main()
