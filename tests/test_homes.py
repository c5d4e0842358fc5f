import unittest
from copy import deepcopy
from random import Random

from sameworth.homes import home_of, there_at, there_behind
from tests import drawn, oracle, samples, slowruns
from tests.owning import check_own
from tests.slowthere import Walk
from tests.slowthere import there_at as slow_there_at

PLAIN = [program for program, numbers in samples.NUMBERED]

# Sums on two ways, on one of two, and behind both; a round behind.
TWO_WAYS = [
    ([("take", 0), ("take", 1)], ("if", 0, 1, 2)),
    ([("sum", 0, 1), ("less", 0, 1)], ("go", 3)),  # 2, 3
    ([("sum", 1, 0), ("sum", 0, 1)], ("go", 3)),  # 4, 5
    ([("meet", (0, 1)), ("sum", 0, 1), ("less", 0, 1)], ("go", 4)),  # 6 to 8
    ([("meet", (6, 11)), ("sum", 9, 0)], ("if", 10, 5, 6)),  # 9, 10
    ([("sum", 10, 0), ("sum", 9, 0), ("less", 0, 1)], ("go", 4)),  # 11 to 13
    ([("sum", 9, 0), ("tell", 14), ("less", 0, 1)], ("end",)),  # 14 to 16
]
TWO_WAYS_THERE = [
    False, False, False, False, False, True, False, True, False, False, False, False, True, True, True, None, True,
]

# The round's home is come to again: what was done in the round ahead isn't there any more.
AGAIN = [
    ([("take", 0), ("num", 1)], ("go", 1)),
    ([("meet", (0, 6)), ("meet", (1, 3))], ("if", 2, 2, 3)),  # 2, 3
    ([("sum", 2, 1), ("sum", 0, 1), ("less", 2, 1)], ("go", 1)),  # 4 to 6
    ([("sum", 2, 1), ("sum", 0, 1)], ("end",)),  # 7, 8
]


def all_rows(program):
    return range(len(oracle.rows_in(program)))


class Homes(unittest.TestCase):
    def check(self, program, homes):
        for row, home in zip(oracle.with_worth(program), homes, strict=True):
            self.assertEqual(home_of(program, row), home, row)

    def test_rows_without_leaves_and_takes(self):
        self.check([([("take", 3), ("num", 4)], ("go", 1)), ([("take", 2), ("less", 0, 0), ("sum", 0, 1)], ("end",))],
                   [0, 0, 0, 0, 0])

    def test_meets(self):
        self.check(samples.COUNTERS, [0, 0, 0, 0, 1, 1, 1, 1, 1, 1, 1, 1, 1, 1, 0, 1, 1])
        self.check(samples.MEETING, [0, 0, 0, 0, 0, 0, 0, 0, 3, 3, 3, 3, 0, 3, 3, 3, 0])
        self.check(samples.STEADY, [0, 0, 0, 0, 0, 0, 0, 1, 0, 0, 0, 1, 1])
        self.check(samples.JUMPED, [0, 0, 0])

    def test_rounds_in_rounds(self):
        self.check(samples.TWO_ROUNDS, [0, 0, 1, 1, 1, 1, 1, 1, 1, 0])
        self.check(samples.NESTED, [0, 0, 1, 2, 2, 2, 0, 2])

    def test_rows_of_several_meets(self):
        # 4 is of block 3's meet, 8 of block 6's; their sum's home is the further one, whichever comes first.
        program = [
            ([("take", 0), ("take", 1)], ("if", 0, 1, 2)), ([], ("go", 3)), ([], ("go", 3)),
            ([("meet", (0, 1)), ("sum", 2, 0)], ("if", 1, 4, 5)), ([], ("go", 6)), ([], ("go", 6)),
            ([("meet", (0, 2)), ("sum", 2, 4), ("sum", 4, 2), ("less", 5, 4), ("times", 0, 1)], ("end",)),
        ]
        self.check(program, [0, 0, 3, 3, 6, 6, 6, 3, 0])

    def test_by_the_words(self):
        further = 0
        for program in PLAIN + list(drawn.programs(601, 300, 7)):
            walk = Walk(program)
            for row in oracle.with_worth(program):
                home = home_of(program, row)
                self.assertEqual(home, walk.home(row), (program, row))
                self.assertIn(home, walk.above[walk.owners[row]])
                further += home > 0
        self.assertGreater(further, 200)


class There(unittest.TestCase):
    def test_told(self):
        self.assertTrue(oracle.is_program(TWO_WAYS))
        self.assertEqual(there_at(TWO_WAYS), TWO_WAYS_THERE)
        self.assertEqual(there_at(AGAIN), [False, False, False, True, False, False, False, False, False])

    def test_behind(self):
        for row, blocks in (
            (0, [0, 1, 2, 3, 4, 5, 6]), (2, [1, 2, 3, 4, 5, 6]), (4, [1, 2, 3, 4, 5, 6]), (3, [1, 3, 4, 5, 6]),
            (6, [3, 4, 5, 6]), (9, [4, 5, 6]), (10, [4, 5, 6]), (11, [5]),
        ):
            self.assertEqual(there_behind(TWO_WAYS, row), blocks, row)
        for row, blocks in ((2, [1, 2, 3]), (4, [2, 3]), (7, [2, 3]), (5, [2, 3]), (6, [2]), (3, [0, 1, 2, 3])):
            self.assertEqual(there_behind(AGAIN, row), blocks, row)

    def test_a_round_holds_what_came_into_it(self):
        program = [
            ([("take", 0), ("take", 1), ("sum", 0, 1)], ("go", 1)),
            ([("sum", 1, 0)], ("if", 3, 2, 3)),
            ([("sum", 0, 1)], ("go", 1)),
            ([("sum", 0, 1)], ("end",)),
        ]
        self.assertEqual(there_at(program), [False, False, False, True, True, True])
        # Without the sum ahead of the round it's not there as the round is come to first.
        other = [([("take", 0), ("take", 1)], ("go", 1))] + [
            ([tuple(x - 1 if x == 3 else x for x in row) for row in rows], ("if", 2, 2, 3) if end[0] == "if" else end)
            for rows, end in program[1:]
        ]
        self.assertEqual(there_at(other), [False, False, False, True, True])

    def test_on_one_way_of_two(self):
        program = [
            ([("take", 0), ("take", 1)], ("if", 0, 1, 2)),
            ([("sum", 0, 1)], ("go", 3)),
            ([], ("go", 3)),
            ([("sum", 0, 1)], ("end",)),
        ]
        self.assertEqual(there_at(program), [False] * 4)
        self.assertEqual(there_behind(program, 2), [1, 3])
        program[2][0].append(("sum", 1, 0))
        self.assertEqual(there_at(program), [False, False, False, False, True])
        self.assertEqual(there_behind(program, 2), [1, 2, 3])

    def test_rows_of_one_block(self):
        rows = [("take", 0), ("sum", 0, 0), ("tell", 1), ("sum", 0, 0), ("take", 0), ("num", 2), ("num", 2)]
        self.assertEqual(there_at([(rows, ("end",))]), [False, False, None, True, True, False, True])
        self.assertEqual(there_behind([(rows, ("end",))], 3), [0])
        self.assertEqual(there_at(samples.BARE), [])

    def test_by_a_slow_walk(self):
        there = 0
        chosen = PLAIN + list(drawn.programs(602, 400, 7)) + list(drawn.programs(603, 20, 15, 6, times=1))
        for program in chosen:
            told, walk = there_at(program), Walk(program)
            self.assertEqual(told, slow_there_at(program), program)
            self.assertIs(type(told), list)
            self.assertTrue(all(truth is None or type(truth) is bool for truth in told))
            there += told.count(True)
            for row in oracle.with_worth(program):
                blocks = there_behind(program, row)
                self.assertEqual(blocks, walk.there_behind(row), (program, row))
                self.assertIs(type(blocks), list)
        self.assertGreater(there, 1000)

    def test_in_another_order(self):
        # Blocks and rows in another order; where a row is there in its own block it may be another one of those alike.
        rng = Random(604)
        for program in PLAIN + list(drawn.programs(605, 100, 7)):
            other, places = drawn.reordered(rng, program)
            owners, moved = oracle.owners_in(program), oracle.owners_in(other)
            to = {}
            for row in all_rows(program):
                to[owners[row]] = moved[places[row]]
            for row in oracle.with_worth(program):
                self.assertEqual(home_of(other, places[row]), to[home_of(program, row)])
                blocks = [to[block] for block in there_behind(program, row) if block in to]
                self.assertEqual(sorted(blocks), [b for b in there_behind(other, places[row]) if b in to.values()])

    def test_along_runs(self):
        # Where a row's worth is there, a row alike was done since its home was come to, and has that worth.
        compared = 0
        for program in PLAIN + list(drawn.programs(606, 200)):
            told, walk = there_at(program), Walk(program)
            for takes in drawn.takes(607, 2):
                last = {}
                for event in slowruns.events(program, takes, 80):
                    if event[0] == "come":
                        last = {row: worth for row, worth in last.items() if walk.home(row) != event[1]}
                    elif event[0] == "do" and event[2] is not None:
                        if told[event[1]]:
                            alike = {last[row] for row in walk.alike(event[1]) if row in last}
                            self.assertEqual(alike, {event[2]}, (program, takes, event[1]))
                            compared += 1
                        last[event[1]] = event[2]
        self.assertGreater(compared, 500)

    def test_askers_own(self):
        for program in PLAIN + [TWO_WAYS, AGAIN]:
            check_own(self, there_at, deepcopy(program))
            for row in oracle.with_worth(program):
                check_own(self, home_of, deepcopy(program), row)
                check_own(self, there_behind, deepcopy(program), row)


if __name__ == "__main__":
    unittest.main()
