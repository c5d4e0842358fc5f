import unittest
from copy import deepcopy

from sameworth.blocks import above, block_of, leads_of, rows_of, stands
from tests import oracle, samples


class Leads(unittest.TestCase):
    def test_told(self):
        cases = [
            (samples.BARE, [[]]),
            (samples.ALL_ROWS, [[]]),
            (samples.CHOICE, [[], [0], [0], [1, 2]]),
            (samples.SHORT_CUT, [[], [0], [0, 1]]),
            (samples.ROUND, [[], [0, 2], [1], [1]]),
            (samples.OWN_LEAD, [[], [0, 1], [1]]),
            (samples.NESTED, [[], [0, 4], [1, 2], [2], [3], [3]]),
            (samples.JUMPED, [[], [0, 2], [0, 1], [2]]),
            (samples.LATE_LEAD, [[], [0], [1, 3], [0], [2]]),
            (samples.ENDS, [[], [0], [0], [2], [2]]),
        ]
        for program, leads in cases:
            with self.subTest(program=program):
                self.assertEqual(leads_of(program), leads)

    def test_all_small_graphs(self):
        for many in (1, 2, 3, 4):
            for program in samples.all_graphs(many):
                self.assertEqual(leads_of(program), oracle.leads_of(program), program)


class Above(unittest.TestCase):
    def test_told(self):
        cases = [
            (samples.BARE, [[0]]),
            (samples.ALL_ROWS, [[0]]),
            (samples.CHOICE, [[0], [0, 1], [0, 2], [0, 3]]),
            (samples.SHORT_CUT, [[0], [0, 1], [0, 2]]),
            (samples.ROUND, [[0], [0, 1], [0, 1, 2], [0, 1, 3]]),
            (samples.OWN_LEAD, [[0], [0, 1], [0, 1, 2]]),
            (samples.NESTED, [[0], [0, 1], [0, 1, 2], [0, 1, 2, 3], [0, 1, 2, 3, 4], [0, 1, 2, 3, 5]]),
            (samples.JUMPED, [[0], [0, 1], [0, 2], [0, 2, 3]]),
            (samples.LATE_LEAD, [[0], [0, 1], [0, 2], [0, 3], [0, 2, 4]]),
            (samples.ENDS, [[0], [0, 1], [0, 2], [0, 2, 3], [0, 2, 4]]),
        ]
        for program, lists in cases:
            with self.subTest(program=program):
                self.assertEqual(above(program), lists)

    def test_all_small_graphs(self):
        for many in (1, 2, 3, 4):
            for program in samples.all_graphs(many):
                self.assertEqual(above(program), oracle.above(program), program)

    def test_some_greater_graphs(self):
        for many in (5, 6, 8, 11, 16):
            for program in samples.some_graphs(many, 150):
                self.assertEqual(above(program), oracle.above(program), program)

    def test_greater_leads_looked_at_again_and_again(self):
        # What 8 tells of 6 is known only when 3, and what that tells of 2, has been looked at.
        ends = [("if", 0, 1, 8), ("if", 0, 2, 7), ("go", 3), ("if", 0, 4, 2), ("go", 5)]
        ends += [("go", 6), ("if", 0, 3, 9), ("end",), ("go", 6), ("end",)]
        program = [([("take", 0)] if block == 0 else [], end) for block, end in enumerate(ends)]
        self.assertEqual(
            above(program),
            [[0], [0, 1], [0, 2], [0, 3], [0, 3, 4], [0, 3, 4, 5], [0, 6], [0, 1, 7], [0, 8], [0, 6, 9]],
        )

class Rows(unittest.TestCase):
    def test_numbered_block_by_block(self):
        for program in samples.SMALL:
            rows = rows_of(program)
            told = [(block_of(program, number), row) for number, row in enumerate(rows)]
            expected = [(block, row) for block in range(len(program)) for row in program[block][0]]
            self.assertEqual(told, expected)

    def test_told(self):
        self.assertEqual(rows_of(samples.BARE), [])
        self.assertEqual(rows_of(samples.ENDS), [("take", 2), ("num", 3), ("tell", 0)])
        self.assertEqual([block_of(samples.ENDS, row) for row in (0, 1, 2)], [0, 3, 4])
        self.assertEqual([block_of(samples.ROUND, row) for row in range(8)], [0, 0, 0, 1, 1, 1, 2, 3])


class Stands(unittest.TestCase):
    def test_told(self):
        cases = [
            (samples.CHOICE, 2, 1, True),  # its own block's end
            (samples.CHOICE, 0, 3, True),
            (samples.CHOICE, 1, 2, True),
            (samples.CHOICE, 2, 3, False),  # one of two ways only
            (samples.CHOICE, 2, 2, False),
            (samples.CHOICE, 7, 0, False),  # the other way around
            (samples.CHOICE, 4, 2, True),  # a tell stands, too
            (samples.CHOICE, 4, 3, False),
            (samples.ROUND, 6, 1, False),  # just in rounds but the first
            (samples.ROUND, 5, 2, True),
            (samples.ROUND, 5, 3, True),
            (samples.ROUND, 6, 3, False),
            (samples.JUMPED, 1, 2, False),
            (samples.JUMPED, 2, 1, False),
            (samples.JUMPED, 2, 3, True),
            (samples.LATE_LEAD, 1, 2, False),
            (samples.LATE_LEAD, 1, 4, False),
            (samples.LATE_LEAD, 2, 4, True),
            (samples.ENDS, 0, 1, True),
        ]
        for program, row, block, answer in cases:
            with self.subTest(program=program, row=row, block=block):
                self.assertIs(stands(program, row, block), answer)

    def test_each_row_at_each_block(self):
        for program in samples.SMALL:
            ways = oracle.above(program)
            for row in range(len(rows_of(program))):
                for block in range(len(program)):
                    self.assertIs(stands(program, row, block), block_of(program, row) in ways[block])

    def test_some_greater_graphs(self):
        for graph in samples.some_graphs(9, 60):
            program = samples.with_a_row_each(graph)
            ways = oracle.above(program)
            for row in range(9):
                for block in range(9):
                    self.assertIs(stands(program, row, block), row in ways[block], (program, row, block))


class AskersOwn(unittest.TestCase):
    def ask_all(self, program):
        return [leads_of(program), above(program), rows_of(program)]

    def test_what_is_told_can_be_changed(self):
        for program in samples.SMALL:
            first = deepcopy(self.ask_all(program))
            for lists in self.ask_all(program):
                for inner in lists:
                    if isinstance(inner, list):
                        inner.append("spoilt")
                        inner.reverse()
                lists.append("spoilt")
                lists.reverse()
            self.assertEqual(self.ask_all(program), first)

    def test_no_list_twice_in_one_answer(self):
        for program in samples.SMALL:
            for lists in (leads_of(program), above(program)):
                places = [id(inner) for inner in lists]
                self.assertEqual(len(places), len(set(places)))

    def test_a_blocks_own_list_is_not_told(self):
        told = rows_of(samples.BARE)
        told.append(("num", 1))
        self.assertEqual(samples.BARE, [([], ("end",))])
        self.assertIsNot(rows_of(samples.ALL_ROWS), samples.ALL_ROWS[0][0])

    def test_what_is_handed_in_stays(self):
        for program in samples.SMALL:
            handed = deepcopy(program)
            self.ask_all(handed)
            for row in range(len(rows_of(handed))):
                block_of(handed, row)
                stands(handed, row, len(handed) - 1)
            self.assertEqual(handed, program)

    def test_a_later_change_is_answered_anew(self):
        program = deepcopy(samples.CHOICE)
        kept = deepcopy(self.ask_all(program))
        told = self.ask_all(program)
        program[0] = ([("take", 0)], ("go", 1))
        program[1] = ([], ("go", 2))
        program[2] = ([("num", 5)], ("go", 3))
        program[3] = ([], ("end",))
        self.assertEqual(told, kept)
        self.assertEqual(leads_of(program), [[], [0], [1], [2]])
        self.assertEqual(above(program), [[0], [0, 1], [0, 1, 2], [0, 1, 2, 3]])
        self.assertEqual(rows_of(program), [("take", 0), ("num", 5)])
        self.assertEqual(block_of(program, 1), 2)
        self.assertIs(stands(program, 1, 3), True)

    def test_kinds(self):
        for program in samples.SMALL:
            for lists in (leads_of(program), above(program)):
                self.assertIs(type(lists), list)
                for inner in lists:
                    self.assertIs(type(inner), list)
                    self.assertTrue(all(type(block) is int for block in inner))
            self.assertIs(type(rows_of(program)), list)
            self.assertTrue(all(type(row) is tuple for row in rows_of(program)))


if __name__ == "__main__":
    unittest.main()
