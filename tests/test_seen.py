import unittest
from copy import deepcopy

from sameworth.numbering import numbers_of
from sameworth.seen import facts_at, seen_from
from tests import drawn, oracle, samples, slowruns, slowseen
from tests.owning import check_own

PLAIN = [program for program, numbers in samples.NUMBERED]

# Tests of each kind on the ways to blocks that have one lead, or more.
WAYS = [
    ([("take", 0), ("take", 1), ("same", 0, 1), ("below", 0, 1), ("sum", 0, 1)], ("if", 2, 1, 2)),
    ([("take", 2)], ("if", 3, 3, 4)),
    ([], ("if", 4, 5, 6)),
    ([], ("if", 5, 7, 8)),
    ([], ("go", 9)),
    ([], ("go", 9)),
    ([("less", 0, 1)], ("if", 6, 10, 11)),
    ([], ("end",)),
    ([], ("go", 9)),
    ([], ("if", 2, 12, 13)),
    ([], ("end",)),
    ([], ("end",)),
    ([], ("end",)),
    ([], ("end",)),
]
ON_ONE = [("alike", 0, 1), ("one", 2)]
WAYS_FACTS = [
    [], ON_ONE, [("none", 2)], ON_ONE + [("one", 3)], ON_ONE + [("none", 3)], [("none", 2)], [("none", 2), ("none", 4)],
    ON_ONE + [("one", 3)], ON_ONE + [("one", 3), ("none", 5)], [], [("none", 2), ("none", 4)],
    [("none", 2), ("none", 4), ("none", 6)], ON_ONE, [("none", 2)],
]

# Rows for one block: x, y and z are taken, and then 0, 1, 2.
BEGIN = [("take", 0), ("take", 1), ("take", 2), ("num", 0), ("num", 1), ("num", 2)]


class Facts(unittest.TestCase):
    def test_told(self):
        self.assertTrue(oracle.is_program(WAYS))
        for block, facts in enumerate(WAYS_FACTS):
            self.assertEqual(facts_at(WAYS, block), facts, block)

    def test_rounds(self):
        program = [
            ([("take", 0), ("num", 1)], ("go", 1)),
            ([("meet", (0, 4)), ("below", 2, 1)], ("if", 3, 2, 3)),
            ([("sum", 2, 1)], ("go", 1)),
            ([], ("end",)),
        ]
        self.assertEqual([facts_at(program, block) for block in range(4)], [[], [], [("one", 3)], [("none", 3)]])

    def test_a_block_that_leads_to_itself_has_two_leads(self):
        program = [([("take", 0)], ("if", 0, 1, 2)), ([("same", 0, 0)], ("if", 1, 1, 3)), ([], ("end",)), ([], ("end",))]
        self.assertEqual([facts_at(program, block) for block in range(4)], [[], [], [("none", 0)], [("none", 1)]])

    def test_by_the_words(self):
        told = 0
        for program in PLAIN + list(drawn.programs(401, 500, 8, tested=True)):
            for block in range(len(program)):
                facts = facts_at(program, block)
                self.assertEqual(facts, slowseen.facts_at(program, block))
                self.assertIs(type(facts), list)
                self.assertTrue(all(type(fact) is tuple for fact in facts))
                told += len(facts) > 2
        self.assertGreater(told, 40)


class Seen(unittest.TestCase):
    def check(self, rows, first, other, tested=None):
        """What is seen of rows behind BEGIN at the two blocks that the last of them, or a told one, leads to."""
        rows = BEGIN + rows
        tested = len(rows) - 1 if tested is None else tested
        program = [(rows, ("if", tested, 1, 2)), ([], ("end",)), ([], ("end",))]
        self.assertTrue(oracle.is_program(program))
        for block, told in ((1, first), (2, other)):
            if told is not None:
                self.assertEqual(slowseen.seen_from(program, block), told)
                self.assertEqual(seen_from(program, block), told)
        self.assertEqual(seen_from(program, 0), numbers_of(program))

    def test_a_leaf_of_a_same(self):
        # y is x: the greatest leaf goes, and so do tests; 2 x is x and y.
        self.check([("sum", 0, 1), ("below", 0, 1), ("times", 0, 5), ("same", 0, 1)],
                   [0, 0, 2, 3, 4, 5, 6, 3, 6, 4], [0, 1, 2, 3, 4, 5, 6, 7, 8, 3])

    def test_the_greatest_leaf(self):
        # x is y and z: z is x less y.
        self.check([("sum", 1, 2), ("less", 0, 1), ("less", 0, 2), ("same", 0, 6)],
                   [0, 1, 2, 3, 4, 5, 0, 2, 1, 4], None)

    def test_which_leaf_goes_matters_for_the_next_fact(self):
        # x is y and z; 2 x, 3 y and 2 z together are 0. Where x goes first, 5 y and 4 z are left, which tells
        # nothing; where y or z does, it's seen that y and 4 x together are 0.
        for takes, alike in (((0, 1, 2), True), ((0, 2, 1), True), ((1, 0, 2), True), ((2, 1, 0), False)):
            rows = [("take", place) for place in takes] + [
                ("sum", 1, 2), ("same", 0, 3), ("num", 2), ("num", 3), ("num", -4), ("times", 7, 0),  # 3 to 8
                ("sum", 0, 2), ("times", 5, 9), ("times", 6, 1), ("sum", 10, 11),  # 9 to 12
            ]
            program = [(rows, ("if", 4, 1, 2)), ([], ("if", 12, 3, 4))] + [([], ("end",))] * 3
            self.assertEqual(seen_from(program, 4)[8], 1 if alike else 8, takes)
            self.assertEqual(seen_from(program, 4), slowseen.seen_from(program, 4))

    def test_one_or_minus_one_ahead(self):
        # 2 x is y, either way round.
        self.check([("times", 0, 5), ("same", 6, 1)], [0, 1, 2, 3, 4, 5, 1, 4], None)
        self.check([("times", 0, 5), ("same", 1, 6)], [0, 1, 2, 3, 4, 5, 1, 4], None)
        # 2 y is x: only x can go; x is y and y then.
        self.check([("times", 1, 5), ("sum", 0, 0), ("times", 5, 6), ("same", 6, 0)],
                   [0, 1, 2, 3, 4, 5, 0, 7, 7, 4], None)
        # 2 x is 2 y, as a difference: no leaf goes, but the test is 1.
        self.check([("times", 0, 5), ("sum", 1, 1), ("same", 0, 1), ("same", 6, 7)],
                   [0, 1, 2, 3, 4, 5, 6, 7, 4, 4], [0, 1, 2, 3, 4, 5, 6, 7, 3, 3])

    def test_a_leaf_in_two_products(self):
        # y y is y and x: x goes though it's the lesser one.
        self.check([("times", 1, 1), ("sum", 0, 1), ("less", 6, 1), ("same", 6, 7)],
                   [0, 1, 2, 3, 4, 5, 6, 6, 0, 4], None)
        # y y is y: none goes; the test is 1.
        self.check([("times", 1, 1), ("same", 1, 6)], [0, 1, 2, 3, 4, 5, 6, 4], [0, 1, 2, 3, 4, 5, 6, 3])
        # x y is x: x isn't alone but once.
        self.check([("times", 0, 1), ("same", 0, 6)], [0, 1, 2, 3, 4, 5, 6, 4], None)

    def test_a_power_of_a_leaf(self):
        # x x is y y: none goes.
        self.check([("times", 0, 0), ("times", 1, 1), ("same", 6, 7)], [0, 1, 2, 3, 4, 5, 6, 7, 4], None)
        # y is x x, and what has y has that.
        self.check([("times", 0, 0), ("times", 0, 1), ("times", 0, 6), ("same", 6, 1)],
                   [0, 1, 2, 3, 4, 5, 1, 7, 7, 4], None)

    def test_a_leaf_within_a_test_or_a_pick(self):
        # y is the pick of y, or the test of y and x: y stands within, x isn't alone.
        self.check([("pick", 1, (0, 3)), ("same", 1, 6)], [0, 1, 2, 3, 4, 5, 6, 4], None)
        self.check([("below", 0, 1), ("same", 1, 6)], [0, 1, 2, 3, 4, 5, 6, 4], None)
        # y is twice the pick of y and x: y doesn't go, so that it may be 1, and odd, for all that is seen.
        self.check([("pick", 1, (0, 2)), ("sum", 6, 6), ("same", 1, 4), ("pick", 1, (0, 1)), ("same", 1, 7)],
                   [0, 1, 2, 3, 4, 5, 6, 7, 8, 9, 4], None)
        # z is that pick: z goes.
        self.check([("pick", 1, (0, 3)), ("same", 2, 6)], [0, 1, 2, 3, 4, 5, 2, 4], None)
        # y is a pick by x, of which y is a part.
        self.check([("pick", 0, (1, 3)), ("sum", 2, 6), ("same", 1, 6)], [0, 1, 2, 3, 4, 5, 6, 7, 4], None)

    def test_a_test_of_below(self):
        # Told 1 or 0, wherever it stands: within sums, tests and picks, too.
        rows = [("below", 0, 1), ("sum", 6, 0), ("pick", 6, (1, 2)), ("same", 7, 2), ("same", 0, 2), ("below", 0, 1)]
        self.check(rows, [0, 1, 2, 3, 4, 5, 4, 7, 2, 9, 10, 4], [0, 1, 2, 3, 4, 5, 3, 0, 1, 9, 9, 3])
        # x below y: y not above x is the other test, which stays.
        self.check([("below", 1, 0), ("below", 0, 1)], [0, 1, 2, 3, 4, 5, 6, 4], [0, 1, 2, 3, 4, 5, 6, 3])

    def test_other_rows(self):
        # x and y are 0 together: y is x turned in sign. Where they aren't, nothing is told.
        self.check([("less", 3, 0), ("sum", 0, 1)], [0, 1, 2, 3, 4, 5, 6, 7], [0, 1, 2, 3, 4, 5, 1, 3])
        # A leaf that is 0; products of it are, too.
        self.check([("times", 0, 1)], [0, 1, 2, 3, 4, 5, 6], [0, 1, 2, 0, 4, 5, 0], 0)
        # A product, a pick, and a number tell nothing.
        self.check([("times", 0, 1)], [0, 1, 2, 3, 4, 5, 6], [0, 1, 2, 3, 4, 5, 6])
        self.check([("pick", 0, (1, 2))], [0, 1, 2, 3, 4, 5, 6], [0, 1, 2, 3, 4, 5, 6])
        self.check([("num", 7)], [0, 1, 2, 3, 4, 5, 6], [0, 1, 2, 3, 4, 5, 6])

    def test_a_test_that_is_told_by_another_row(self):
        test = ("same", 0, 1)
        # The test less 1 is 0; 2 less the test is 0 (it can't be); 5 and the test are 0 together.
        self.check([test, ("less", 6, 4)], None, [0, 1, 2, 3, 4, 5, 4, 3])
        self.check([test, ("less", 5, 6), ("times", 6, 0), ("sum", 0, 0), ("sum", 7, 3)], None,
                   [0, 1, 2, 3, 4, 5, 5, 3, 8, 8, 3])
        self.check([test, ("num", 5), ("sum", 6, 7), ("num", -5)], None, [0, 1, 2, 3, 4, 5, 6, 7, 3, 6], 8)
        # Twice the test, its square less 1, two tests, a test and a pick: passed over.
        self.check([test, ("sum", 6, 6)], None, [0, 1, 2, 3, 4, 5, 6, 7])
        self.check([test, ("times", 6, 6), ("less", 7, 4)], None, [0, 1, 2, 3, 4, 5, 6, 7, 8])
        self.check([test, ("below", 0, 1), ("sum", 6, 7)], None, [0, 1, 2, 3, 4, 5, 6, 7, 8])
        self.check([test, ("pick", 0, (1, 2)), ("sum", 6, 7)], None, [0, 1, 2, 3, 4, 5, 6, 7, 8])

    def test_a_test_is_replaced_once(self):
        # T is "x is 0", and isn't so; "x and T together are 0" then comes to be T, and stays.
        self.check([("same", 0, 3), ("sum", 0, 6), ("same", 7, 3)], None, [0, 1, 2, 3, 4, 5, 3, 0, 8], 6)

    def test_what_was_kept_is_told_by_a_later_fact(self):
        rows = [("take", 0), ("num", 0), ("same", 0, 1), ("sum", 0, 2), ("same", 3, 1)]
        program = [(rows, ("if", 2, 1, 2)), ([], ("end",)), ([], ("if", 4, 3, 4)), ([], ("end",)), ([], ("end",))]
        self.assertEqual([seen_from(program, block) for block in (2, 4)], [[0, 1, 1, 0, 4], [0, 1, 1, 0, 1]])

    def test_facts_changed_by_those_ahead(self):
        # y is x; then z is y, which is x by then; then x, which can go no more but as itself, is 0.
        program = [
            ([("take", 0), ("take", 1), ("take", 2), ("same", 0, 1), ("num", 0)], ("if", 3, 1, 2)),
            ([("same", 1, 2), ("less", 1, 0)], ("if", 5, 3, 4)),
            ([], ("end",)),
            ([("sum", 2, 1), ("less", 2, 0)], ("if", 2, 5, 6)),
            ([("less", 0, 1)], ("end",)),
            ([], ("end",)),
            ([], ("end",)),
        ]
        told = [
            [0, 1, 2, 3, 4] + [None] * 5,
            [0, 0, 2, 3, 4, 5, 4, None, None, None],
            [0, 1, 2, 3, 3] + [None] * 5,
            [0, 0, 0, 3, 4, 3, 4, 7, 4, None],
            [0, 0, 2, 3, 4, 4, 4, None, None, 4],
            [0, 0, 0, 3, 4, 3, 4, 7, 4, None],
            [0, 0, 0, 3, 0, 3, 0, 0, 0, None],
        ]
        for block, numbers in enumerate(told):
            self.assertEqual(slowseen.seen_from(program, block), numbers)
            self.assertEqual(seen_from(program, block), numbers, block)

    def test_leaves_of_meets_are_greater_than_those_taken(self):
        program = [
            ([("take", 5), ("num", 0), ("num", 1)], ("go", 1)),
            ([("meet", (1, 5)), ("same", 3, 0)], ("if", 4, 3, 2)),
            ([("sum", 3, 2), ("less", 3, 0)], ("go", 1)),
            ([("less", 0, 3), ("tell", 7), ("sum", 3, 2), ("sum", 0, 2)], ("end",)),
        ]
        self.assertEqual(seen_from(program, 3), [0, 1, 2, 0, 2, None, None, 1, None, 9, 9])
        self.assertEqual(seen_from(program, 2), [0, 1, 2, 3, 1, 5, 6, None, None, None, None])

    def test_rows_that_dont_stand_there(self):
        program = samples.CHOICE
        self.assertEqual(seen_from(program, 1), [0, 1, 2, None, None, None, None, None])
        self.assertEqual(seen_from(program, 2), [0, 1, None, 3, None, None, None, None])
        self.assertEqual(seen_from(program, 3), [0, 1, None, None, None, 5, 6, None])
        # The row that is 0 is alike with a number that doesn't stand there: the least of those that do is told.
        other = [([("take", 0)], ("if", 0, 1, 2)), ([("num", 0)], ("end",)), ([("num", 0)], ("end",))]
        self.assertEqual(seen_from(other, 2), [0, None, 0])
        self.assertEqual(seen_from(other, 1), [0, 1, None])

    def test_by_the_words(self):
        more = 0
        kinds = {"leaf": 0, "same": 0, "below": 0, None: 0}
        chosen = PLAIN + list(drawn.programs(402, 700, 6, 6, times=1, tested=True))
        for program in chosen + list(drawn.programs(403, 30, 14, 6, times=1, tested=True)):
            numbers = numbers_of(program)
            for block in range(len(program)):
                seen = seen_from(program, block)
                self.assertIs(type(seen), list)
                self.assertEqual(seen, slowseen.seen_from(program, block), (program, block))
                more += any(least is not None and least < numbers[row] for row, least in enumerate(seen))
                for kind in slowseen.seen_forms(program, block)[1]:
                    kinds[kind] += 1
        self.assertGreater(more, 200)
        self.assertGreater(min(kinds.values()), 50)

    def test_askers_own(self):
        for program in PLAIN + [WAYS]:
            for block in range(len(program)):
                check_own(self, facts_at, deepcopy(program), block)
                check_own(self, seen_from, deepcopy(program), block)


class AlongRuns(unittest.TestCase):
    def test_rows_alike_there_have_one_last_worth(self):
        compared = 0
        chosen = PLAIN + [WAYS] + list(drawn.programs(404, 350, 6, 6, times=1, tested=True))
        for program in chosen:
            seen = [seen_from(program, block) for block in range(len(program))]
            numbers = numbers_of(program)
            for takes in drawn.takes(405, 5):
                last, block = {}, None
                # What comes behind a block's rows is its end.
                for event in slowruns.events(program, takes, 150)[:149] + [("ended",)]:
                    if event[0] == "do":
                        last[event[1]] = event[2]
                        left -= 1
                        continue
                    if block is not None and left == 0:
                        for row, least in enumerate(seen[block]):
                            if least is not None:
                                self.assertEqual(last[row], last[least], (program, takes, block, row))
                                compared += least < numbers[row]
                    if event[0] == "come":
                        block, left = event[1], len(program[event[1]][0])
        self.assertGreater(compared, 500)


if __name__ == "__main__":
    unittest.main()
