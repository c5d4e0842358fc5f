import unittest
from copy import deepcopy
from itertools import product

from sameworth.numbering import numbers_of
from sameworth.readings import shows_reading
from tests import drawn, oracle, samples, slowforms
from tests.things import JUNK, variants

PLAIN = [program for program, numbers in samples.NUMBERED]


class Asked(unittest.TestCase):
    def right(self, program, *lists):
        for numbers in lists:
            self.assertIs(shows_reading(program, numbers), True, (program, numbers))

    def wrong(self, program, *things):
        for thing in things:
            self.assertIs(shows_reading(program, thing), False, (program, thing))


class RightOnes(Asked):
    def test_the_widest(self):
        for program, numbers in samples.NUMBERED:
            self.right(program, numbers)

    def test_a_round_whose_meets_arent_alike(self):
        # Each counter by itself, and the three that go in step in twos.
        self.right(
            samples.COUNTERS,
            [0, 1, 2, 3, 4, 4, 6, 4, 8, 9, 9, 11, 12, 9, 1, 15, 15, None],
            [0, 1, 2, 3, 4, 5, 6, 7, 8, 9, 10, 11, 12, 13, 14, 15, 16, None],
            [0, 1, 2, 3, 4, 4, 6, 7, 8, 9, 9, 11, 12, 13, 1, 15, 16, None],
            [0, 1, 2, 3, 4, 5, 6, 4, 8, 9, 10, 11, 12, 9, 14, 15, 16, None],
        )
        # 15 is 4's and 7's sum, 16 twice 5: alike where 5 and 7 are, only with 4.
        self.wrong(
            samples.COUNTERS,
            [0, 1, 2, 3, 4, 5, 6, 4, 8, 9, 10, 11, 12, 9, 14, 15, 15, None],
            [0, 1, 2, 3, 4, 4, 6, 7, 8, 9, 9, 11, 12, 13, 14, 15, 16, None],
        )

    def test_a_meet_that_hangs_on_itself(self):
        # Row 2 is a meet of 0 and itself: as 0, or a leaf of its own.
        self.right(samples.OWN_LEAD, [0, 1, 0, 3], [0, 1, 2, 3])
        self.wrong(samples.OWN_LEAD, [0, 0, 0, 3], [0, 1, 1, 3], [0, 0, 2, 3], [0, 1, 0, 1])
        self.right(samples.JUMPED, [0, 0, 0, None], [0, 1, 2, None])
        self.wrong(samples.JUMPED, [0, 0, 2, None], [0, 1, 0, None], [0, 1, 1, None])

    def test_all_readings_of_drawn_programs(self):
        several = 0
        for program in drawn.programs(121, 500):
            if sum(row[0] == "meet" for row in oracle.rows_in(program)) < 6:
                lists = [slowforms.numbers(made) for made in slowforms.readings(program)]
                self.right(program, *lists)
                self.assertIn(numbers_of(program), lists)
                several += len(lists) > 1
        self.assertGreater(several, 20)


class WrongOnes(Asked):
    def test_just_the_readings_of_small_programs(self):
        asked = 0
        for program in drawn.programs(122, 250, 4, 1):
            rows = oracle.rows_in(program)
            if len(rows) < 7:
                right = [slowforms.numbers(made) for made in slowforms.readings(program)]
                choices = [(None,) if row[0] == "tell" else range(at + 1) for at, row in enumerate(rows)]
                for numbers in map(list, product(*choices)):
                    self.assertIs(shows_reading(program, numbers), numbers in right, (program, numbers))
                    asked += 1
        self.assertGreater(asked, 10000)

    def test_one_number_otherwise(self):
        for program in PLAIN + list(drawn.programs(123, 60)):
            if sum(row[0] == "meet" for row in oracle.rows_in(program)) > 5:
                continue
            numbers = numbers_of(program)
            right = [slowforms.numbers(made) for made in slowforms.readings(program)]
            for at in range(len(numbers)):
                for other in (None, *range(-2, len(numbers) + 2)):
                    asked = numbers[:at] + [other] + numbers[at + 1:]
                    self.assertIs(shows_reading(program, asked), asked in right, (program, asked))

    def test_a_row_that_isnt_its_own_number(self):
        program = [([("take", 0)] * 3, ("end",))]
        self.right(program, [0, 0, 0])
        self.wrong(program, [0, 0, 1], [1, 1, 1], [0, 1, 1], [2, 2, 2], [0, 0, 2], [0, 2, 1])

    def test_of_lay_and_tell(self):
        program = [([("take", 0), ("tell", 0), ("take", 0)], ("end",))]
        self.right(program, [0, None, 0])
        self.wrong(program, [0, 1, 0], [0, 0, 0], [0, None, 1], [0, None, None], [0, None, 2], [None, None, None])

    def test_true_and_texts_for_numbers(self):
        program = [([("take", 0), ("take", 1), ("take", 0), ("take", 1)], ("end",))]
        self.right(program, [0, 1, 0, 1])
        self.wrong(program, [False, 1, 0, 1], [0, True, 0, 1], [0, 1, False, 1], [0, 1, 0, True])
        self.wrong(program, ["0", 1, 0, 1], [0, 1, 0, "1"], [0, 1, 0, (1,)], [0, 1, 0, [1]], [0, 1, 0, {1: 1}])

    def test_lists_too_short_or_too_long(self):
        for program, numbers in samples.NUMBERED:
            self.wrong(program, numbers + [None], numbers + [0], tuple(numbers), [None] + numbers, [numbers])
            if numbers:
                self.wrong(program, numbers[:-1], numbers[1:], [])

    def test_meets_by_their_parts_numbers(self):
        # Two meets of one block whose parts have the same numbers, told apart; and two of two blocks, told alike.
        wrong = list(samples.MEETING_NUMBERS)
        for row in (10, 14, 15, 16):
            wrong[row] = {10: 10, 14: 14, 15: 15, 16: 16}[row]
        self.wrong(samples.MEETING, wrong)
        program = [
            ([("take", 0), ("take", 1)], ("if", 0, 1, 2)), ([], ("go", 3)), ([], ("go", 3)),
            ([("meet", (0, 1))], ("if", 0, 4, 5)), ([], ("go", 6)), ([], ("go", 6)),
            ([("meet", (0, 1))], ("end",)),
        ]
        self.right(program, [0, 1, 2, 3])
        self.wrong(program, [0, 1, 2, 2], [0, 1, 0, 3], [0, 1, 2, 0], [0, 1, 1, 1])

    def test_anything(self):
        for program, numbers in samples.NUMBERED:
            self.wrong(program, *[thing for thing in JUNK if thing != numbers])
        for program in (samples.COUNTERS, samples.CHOICE, samples.OWN_LEAD):
            numbers = numbers_of(program)
            right = [slowforms.numbers(made) for made in slowforms.readings(program)]
            for thing in variants(numbers, JUNK):
                answer = type(thing) is list and thing in right and all(type(n) is not bool for n in thing)
                self.assertIs(shows_reading(program, thing), answer, thing)

    def test_numbers_that_would_make_great_forms(self):
        # Were the meet taken to be row 9, its 32nd power would be beyond all bounds.
        rows = [("take", place) for place in range(4)] + [("sum", 0, 1), ("sum", 2, 3), ("times", 4, 5)]
        rows += [("times", at, at) for at in (6, 7, 8)] + [("take", 4), ("take", 5)]
        program = [
            (rows, ("if", 0, 1, 2)), ([], ("go", 2)),
            ([("meet", (10, 11))] + [("times", at, at) for at in range(12, 17)], ("end",)),
        ]
        self.right(program, list(range(18)))
        for least in range(12):
            self.wrong(program, list(range(12)) + [least] + list(range(13, 18)))
        self.wrong(program, list(range(10)) + [9, 9, 9] + list(range(13, 18)))


class HandedIn(unittest.TestCase):
    def test_stays_as_it_was(self):
        for program, numbers in samples.NUMBERED:
            handed, asked = deepcopy(program), list(numbers)
            first = shows_reading(handed, asked)
            self.assertEqual((handed, asked), (program, numbers))
            self.assertIs(shows_reading(handed, asked), first)
        for thing in JUNK:
            asked = deepcopy(thing)
            shows_reading(samples.COUNTERS, asked)
            self.assertEqual(asked, thing)


if __name__ == "__main__":
    unittest.main()
