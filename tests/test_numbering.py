import unittest
from copy import deepcopy
from random import Random

from sameworth.counts import way_of
from sameworth.numbering import Numbering, numbers_of
from sameworth.runs import run
from tests import drawn, oracle, samples, slowforms

PLAIN = [program for program, numbers in samples.NUMBERED]


def pairs_alike(numbers):
    rows = [row for row, number in enumerate(numbers) if number is not None]
    return {(a, b) for a in rows for b in rows if numbers[a] == numbers[b]}


class Told(unittest.TestCase):
    def test_samples(self):
        for program, numbers in samples.NUMBERED:
            with self.subTest(program=program):
                self.assertEqual(numbers_of(program), numbers)
                self.assertEqual(Numbering(program).numbers(), numbers)

    def one_block(self, *rows):
        return numbers_of([(list(rows), ("end",))])

    def test_each_kind_of_row(self):
        takes = [("take", 0), ("take", 1), ("num", 1), ("num", 0)]
        for rows, alike in (
            ([("sum", 0, 1), ("sum", 1, 0)], True), ([("sum", 0, 1), ("less", 0, 1)], False),
            ([("times", 0, 1), ("times", 1, 0)], True), ([("less", 0, 1), ("less", 1, 0)], False),
            ([("same", 0, 1), ("same", 1, 0)], True), ([("below", 0, 1), ("below", 1, 0)], False),
            ([("same", 0, 1), ("below", 0, 1)], False), ([("pick", 0, (0, 1)), ("pick", 0, (0, 1))], True),
            ([("pick", 0, (0, 1)), ("pick", 0, (1, 0))], False), ([("pick", 1, (0, 1)), ("pick", 0, (0, 1))], False),
            ([("num", 5), ("num", 5)], True), ([("num", 5), ("num", -5)], False),
            ([("take", 2), ("take", 2)], True), ([("take", 2), ("take", 3)], False),
        ):
            numbers = self.one_block(*takes, *rows)
            self.assertEqual(numbers, [0, 1, 2, 3, 4, 4 if alike else 5], rows)
        for row, least in (
            (("sum", 0, 3), 0), (("less", 1, 3), 1), (("times", 1, 2), 1), (("times", 0, 3), 3), (("less", 1, 1), 3),
            (("same", 0, 0), 2), (("below", 1, 1), 3), (("below", 3, 2), 2), (("same", 2, 3), 3),
            (("pick", 2, (0, 1)), 1), (("pick", 3, (0, 1)), 0), (("pick", 0, (1, 1)), 1), (("pick", 0, (1,)), 1),
            (("num", 1), 2), (("take", 1), 1),
        ):
            self.assertEqual(self.one_block(*takes, row), [0, 1, 2, 3, least], row)

    def test_rows_without_a_worth(self):
        self.assertEqual(self.one_block(("take", 0), ("tell", 0), ("take", 0), ("tell", 2)), [0, None, 0, None])

    def test_where_a_row_stands_doesnt_matter(self):
        program = [
            ([("take", 0), ("take", 1)], ("if", 0, 1, 2)), ([("sum", 0, 1)], ("end",)), ([("sum", 1, 0)], ("end",)),
        ]
        self.assertEqual(numbers_of(program), [0, 1, 2, 2])

    def test_meets_of_unlike_blocks(self):
        program = [
            ([("take", 0), ("take", 1)], ("if", 0, 1, 2)), ([], ("go", 3)), ([], ("go", 3)),
            ([("meet", (0, 1))], ("if", 0, 4, 5)), ([], ("go", 6)), ([], ("go", 6)),
            ([("meet", (0, 1)), ("meet", (2, 2))], ("end",)),
        ]
        self.assertEqual(numbers_of(program), [0, 1, 2, 3, 2])

    def test_three_leads(self):
        ends = [("if", 0, 1, 2), ("go", 4), ("if", 1, 3, 4), ("go", 4), ("end",)]
        blocks = [([], end) for end in ends]
        blocks[0] = ([("take", 0), ("take", 1), ("num", 0), ("sum", 0, 2)], ends[0])
        blocks[4] = (
            [("meet", (0, 1, 0)), ("meet", (3, 1, 3)), ("meet", (0, 0, 1)), ("meet", (0, 3, 0)), ("meet", (0, 1, 1))],
            ends[4],
        )
        self.assertEqual(numbers_of(blocks), [0, 1, 2, 0, 4, 4, 6, 0, 8])

    def test_parted_one_after_the_other(self):
        # Only the last meet has a part that differs; each other one has the next one as its part.
        many = 40
        rows = [("meet", (0, 3 + at)) for at in range(many - 1)] + [("meet", (0, 1))]
        program = [([("take", 0), ("take", 1)], ("go", 1)), (rows, ("if", 0, 1, 2)), ([], ("end",))]
        self.assertEqual(numbers_of(program), list(range(many + 2)))
        rows[-1] = ("meet", (0, 2))
        self.assertEqual(numbers_of(program), [0, 1] + [0] * many)


class Widest(unittest.TestCase):
    def test_by_all_readings(self):
        several = 0
        for program in [p for p in PLAIN if len(p) < 6] + list(drawn.programs(101, 900)):
            rows = oracle.rows_in(program)
            if sum(row[0] == "meet" for row in rows) > 5:
                continue
            told = pairs_alike(numbers_of(program))
            found = [pairs_alike(slowforms.numbers(made)) for made in slowforms.readings(program)]
            self.assertIn(told, found, program)
            self.assertTrue(all(pairs <= told for pairs in found), program)
            several += len(found) > 1
        self.assertGreater(several, 50)

    def test_by_a_slow_parting(self):
        for program in list(drawn.programs(102, 700)) + list(drawn.programs(103, 80, 9, 5, times=1)):
            made = slowforms.parted(program)
            told = Numbering(program)
            self.assertEqual(told.numbers(), slowforms.numbers(made), program)
            for row in oracle.with_worth(program):
                self.assertEqual(told.leaves(row), slowforms.leaves_in(made[row]), (program, row))

    def test_in_another_order(self):
        rng = Random(104)
        for program in PLAIN + list(drawn.programs(105, 500)) + list(drawn.programs(106, 60, 10, 6, times=1)):
            for k in range(2):
                other, places = drawn.reordered(rng, program)
                self.assertTrue(oracle.is_program(other))
                told = {(places[a], places[b]) for a, b in pairs_alike(numbers_of(program))}
                self.assertEqual(pairs_alike(numbers_of(other)), told, (program, other))

    def test_great_programs(self):
        for program in drawn.programs(107, 12, 16, 6, times=1):
            self.assertLessEqual(len(program), 16)
            numbers = numbers_of(program)
            self.assertEqual(numbers, slowforms.numbers(slowforms.parted(program)))


class Leaves(unittest.TestCase):
    def test_told(self):
        told = Numbering(samples.COUNTERS)
        cases = [
            (0, [(0, 0)]), (1, []), (4, [(1, 4)]), (5, [(1, 4)]), (6, [(1, 6)]), (7, [(1, 4)]), (8, [(0, 0), (1, 4)]),
            (11, [(1, 6)]), (13, [(1, 4)]), (14, []), (15, [(1, 4)]),
        ]
        for row, leaves in cases:
            self.assertEqual(told.leaves(row), leaves)

    def test_is_leaf(self):
        for program, leafs, others in (
            (samples.COUNTERS, (4, 5, 6, 7), ()), (samples.STEADY, (7,), (3, 4, 5, 6)),
            (samples.MEETING, (8, 9, 10, 11, 13), (7, 12)), (samples.TWO_ROUNDS, (2, 3), (4, 5)),
            (samples.TURNING, (5, 9), (3, 4, 7, 8)), (samples.JUMPED, (), (1, 2)),
        ):
            told = Numbering(program)
            for row in leafs:
                self.assertIs(told.is_leaf(row), True, (program, row))
            for row in others:
                self.assertIs(told.is_leaf(row), False, (program, row))

    def test_a_meet_that_is_a_leaf_of_another_block_is_none(self):
        # The inner round's meets 4 and 5 have the form of the outer round's meet 2.
        told = Numbering(samples.TWO_ROUNDS)
        self.assertEqual([told.leaves(row) for row in (2, 3, 4, 5)], [[(1, 2)]] * 4)
        self.assertEqual([told.is_leaf(row) for row in (2, 3, 4, 5)], [True, True, False, False])

    def test_is_leaf_just_where_its_form_is_one_of_its_own_block(self):
        for program in drawn.programs(108, 400):
            made, told, owners = slowforms.parted(program), Numbering(program), oracle.owners_in(program)
            for row, what in enumerate(oracle.rows_in(program)):
                if what[0] == "meet":
                    own = [slowforms.leaf((1, m)) for m in range(len(owners)) if owners[m] == owners[row]]
                    self.assertIs(told.is_leaf(row), made[row] in own, (program, row))

    def test_their_blocks_lie_on_all_ways(self):
        for program in PLAIN + list(drawn.programs(109, 500, 7)):
            told, owners, ways = Numbering(program), oracle.owners_in(program), oracle.above(program)
            for row in oracle.with_worth(program):
                for kind, at in told.leaves(row):
                    if kind == 1:
                        self.assertIn(owners[at], ways[owners[row]], (program, row))

    def test_worth(self):
        told = Numbering(samples.COUNTERS)
        worths = {(0, 0): 10, (1, 4): 3, (1, 6): 8, (5, 5): 1}
        self.assertEqual([told.worth(row, worths) for row in (0, 1, 2, 4, 7, 8, 11, 13, 14, 15)],
                         [10, 0, 1, 3, 3, 1, 10, 4, 0, 6])
        self.assertEqual(told.worth(14, {}), 0)
        self.assertEqual(told.worth(8, {(0, 0): 3, (1, 4): 3}), 0)
        self.assertEqual(worths, {(0, 0): 10, (1, 4): 3, (1, 6): 8, (5, 5): 1})


class AlongRuns(unittest.TestCase):
    def each_run(self):
        chosen = PLAIN + list(drawn.programs(111, 350)) + list(drawn.programs(112, 40, 9, 5))
        for program in chosen:
            for takes in drawn.takes(113, 3):
                yield program, takes, Numbering(program)

    def rounds(self, program, takes):
        """A pair for each coming to a block: it, and the pairs (row, worth) done in it."""
        done, begin = run(program, takes, 120)[2], 0
        for block in way_of(program, takes, 120):
            end = begin + len(program[block][0])
            yield block, done[begin:end]
            begin = end

    def test_each_worth_is_what_its_form_tells(self):
        for program, takes, told in self.each_run():
            worths = {(0, place): taken for place, taken in enumerate(takes)}
            for block, done in self.rounds(program, takes):
                for row, worth in done:
                    worths[1, row] = worth
                    if worth is not None:
                        self.assertEqual(told.worth(row, worths), worth, (program, takes, row))

    def test_alike_fresh_rows_have_one_worth(self):
        compared = 0
        for program, takes, told in self.each_run():
            owners, numbers, last = oracle.owners_in(program), told.numbers(), {}
            blocks_of = {
                row: {owners[at] for kind, at in told.leaves(row) if kind == 1} for row in oracle.with_worth(program)
            }
            for block, done in self.rounds(program, takes):
                last = {row: worth for row, worth in last.items() if block not in blocks_of[row]}
                for row, worth in done:
                    if worth is not None:
                        last[row] = worth
                        alike = {last[other] for other in last if numbers[other] == numbers[row]}
                        self.assertEqual(alike, {worth}, (program, takes, row))
                        compared += sum(numbers[other] == numbers[row] for other in last) > 1
        self.assertGreater(compared, 1000)


class AskersOwn(unittest.TestCase):
    def test_kinds(self):
        for program in PLAIN:
            told = Numbering(program)
            self.assertIs(type(told.numbers()), list)
            self.assertIs(type(numbers_of(program)), list)
            for row in oracle.with_worth(program):
                self.assertIs(type(told.leaves(row)), list)
                self.assertTrue(all(type(name) is tuple for name in told.leaves(row)))

    def test_what_is_told_can_be_changed(self):
        for program, numbers in samples.NUMBERED:
            told = Numbering(program)
            leaves = [told.leaves(row) for row in oracle.with_worth(program)]
            told.numbers().append("spoilt")
            told.numbers().reverse()
            numbers_of(program).clear()
            for row in oracle.with_worth(program):
                told.leaves(row).append("spoilt")
            self.assertEqual(told.numbers(), numbers)
            self.assertEqual(numbers_of(program), numbers)
            self.assertEqual([told.leaves(row) for row in oracle.with_worth(program)], leaves)

    def test_what_is_handed_in_stays_and_isnt_kept(self):
        for program, numbers in samples.NUMBERED:
            handed = deepcopy(program)
            told = Numbering(handed)
            numbers_of(handed)
            self.assertEqual(handed, program)
            leaves = [told.leaves(row) for row in oracle.with_worth(program)]
            meets = [row for row, what in enumerate(oracle.rows_in(program)) if what[0] == "meet"]
            are_leaves = [told.is_leaf(row) for row in meets]
            for rows, end in handed:
                rows.clear()
            handed.clear()
            self.assertEqual(told.numbers(), numbers)
            self.assertEqual([told.leaves(row) for row in oracle.with_worth(program)], leaves)
            self.assertEqual([told.is_leaf(row) for row in meets], are_leaves)

    def test_two_side_by_side(self):
        one, other = Numbering(samples.COUNTERS), Numbering(samples.MEETING)
        self.assertEqual(one.leaves(15), [(1, 4)])
        self.assertEqual(other.leaves(15), [(1, 8), (1, 9)])
        self.assertEqual(one.worth(15, {(1, 4): 5}), 10)
        self.assertEqual(other.worth(15, {(1, 8): 5, (1, 9): 7}), 12)


if __name__ == "__main__":
    unittest.main()
