import unittest
from copy import deepcopy

from sameworth.counts import reckoned, times_done, way_of
from sameworth.runs import run
from tests import drawn, oracle, samples, slowruns

RECKONINGS = ("sum", "less", "times", "same", "below", "pick", "look")


class Reckoned(unittest.TestCase):
    def test_each_kind_of_row(self):
        rows = oracle.rows_in(samples.ALL_ROWS)
        for number, row in enumerate(rows):
            self.assertEqual(reckoned(samples.ALL_ROWS, [(number, 5)]), int(row[0] in RECKONINGS), row)
        self.assertEqual(reckoned(samples.CHOICE, [(5, 1), (6, 1), (4, None), (0, 1)]), 0)

    def test_whole_runs(self):
        self.assertEqual(reckoned(samples.ALL_ROWS, run(samples.ALL_ROWS, [1] * 6, 99)[2]), 8)
        self.assertEqual(reckoned(samples.BARE, []), 0)
        # Three rounds: a below each time, and once more, and a sum each time.
        self.assertEqual(reckoned(samples.ROUND, run(samples.ROUND, [3] * 6, 99)[2]), 7)

    def test_any_pairs(self):
        self.assertEqual(reckoned(samples.ROUND, [(6, 1)] * 5 + [(7, None)] * 3 + [(5, -4), (0, 0)]), 6)
        self.assertEqual(reckoned(samples.ROUND, []), 0)

    def test_drawn_programs(self):
        for program in drawn.programs(71, 150, rooms=True):
            rows = oracle.rows_in(program)
            for takes in drawn.takes(72, 2):
                for most in (0, 1, 7, 50):
                    done = run(program, takes, most)[2]
                    self.assertEqual(reckoned(program, done), sum(rows[row][0] in RECKONINGS for row, worth in done))


class TimesDone(unittest.TestCase):
    def test_whole_runs(self):
        self.assertEqual(times_done(samples.ROUND, run(samples.ROUND, [3] * 6, 99)[2]), [1, 1, 1, 4, 4, 4, 3, 1])
        self.assertEqual(times_done(samples.CHOICE, run(samples.CHOICE, [0] * 6, 99)[2]), [1, 1, 0, 1, 1, 1, 1, 1])
        self.assertEqual(times_done(samples.BARE, []), [])

    def test_cut_runs(self):
        self.assertEqual(times_done(samples.ROUND, run(samples.ROUND, [3] * 6, 13)[2]), [1, 1, 1, 2, 2, 1, 1, 0])
        self.assertEqual(times_done(samples.ROUND, run(samples.ROUND, [3] * 6, 0)[2]), [0] * 8)

    def test_any_pairs(self):
        pairs = [(7, None), (2, 4), (2, 5), (7, None), (2, 4), (0, 0)]
        self.assertEqual(times_done(samples.ROUND, pairs), [1, 0, 3, 0, 0, 0, 0, 2])

    def test_drawn_programs(self):
        for program in drawn.programs(73, 150, rooms=True):
            for takes in drawn.takes(74, 2):
                done = run(program, takes, 60)[2]
                rows = [row for row, worth in done]
                expected = [rows.count(row) for row in range(len(oracle.rows_in(program)))]
                self.assertEqual(times_done(program, done), expected)


class WayOf(unittest.TestCase):
    def test_whole_runs(self):
        self.assertEqual(way_of(samples.BARE, [0] * 6, 1), [0])
        self.assertEqual(way_of(samples.CHOICE, [1] * 6, 99), [0, 1, 3])
        self.assertEqual(way_of(samples.CHOICE, [0] * 6, 99), [0, 2, 3])
        self.assertEqual(way_of(samples.ROUND, [2] * 6, 99), [0, 1, 2, 1, 2, 1, 3])
        self.assertEqual(way_of(samples.LATE_LEAD, [0] * 6, 99), [0, 3, 2, 4])

    def test_most_within_a_block_and_at_its_begin(self):
        # Block 0 is come to and has three rows: four steps; block 1 is the fifth.
        told = [way_of(samples.ROUND, [2] * 6, most) for most in range(12)]
        self.assertEqual(told[0], [])
        self.assertEqual(told[1:5], [[0]] * 4)
        self.assertEqual(told[5:9], [[0, 1]] * 4)
        self.assertEqual(told[9:11], [[0, 1, 2]] * 2)
        self.assertEqual(told[11], [0, 1, 2, 1])

    def test_of_a_run_that_becomes_great(self):
        squares = ([("meet", (0, 2)), ("times", 1, 1)], ("if", 0, 1, 2))
        program = [([("num", 10 ** 12)], ("go", 1)), squares, ([], ("end",))]
        # The third square would be 10 ** 96.
        self.assertEqual(run(program, [0] * 6, 99)[0], "great")
        self.assertEqual(way_of(program, [0] * 6, 99), [0, 1, 1])

    def test_each_number_of_steps(self):
        for program in samples.SMALL + list(drawn.programs(75, 60, rooms=True, times=4)):
            for takes in drawn.takes(76, 2):
                happened = slowruns.events(program, takes, 50)
                for most in range(45):
                    self.assertEqual(way_of(program, takes, most), slowruns.cut(happened, most)[1], (program, most))

    def test_thousands_of_steps(self):
        self.assertEqual(way_of([([], ("go", 1)), ([], ("go", 1))], [0] * 6, 22000), [0] + [1] * 21999)


class AskersOwn(unittest.TestCase):
    def test_what_is_told_can_be_changed(self):
        for program in samples.SMALL:
            done = run(program, [1] * 6, 30)[2]
            kept = deepcopy(done)
            first = (times_done(program, done), way_of(program, [1] * 6, 30))
            again = (times_done(program, done), way_of(program, [1] * 6, 30))
            for told in again:
                self.assertIs(type(told), list)
                told.append("spoilt")
            self.assertEqual((times_done(program, done), way_of(program, [1] * 6, 30)), first)
            self.assertEqual(done, kept)

    def test_what_is_handed_in_stays(self):
        for program in samples.SMALL:
            handed, takes = deepcopy(program), [1, 2, 3, 4, 5, 6]
            way_of(handed, takes, 30)
            reckoned(handed, run(handed, takes, 30)[2])
            times_done(handed, run(handed, takes, 30)[2])
            self.assertEqual((handed, takes), (program, [1, 2, 3, 4, 5, 6]))


if __name__ == "__main__":
    unittest.main()
