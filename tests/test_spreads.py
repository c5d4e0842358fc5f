import unittest
from copy import deepcopy
from random import Random

from sameworth.errors import BadStep, WorthError
from sameworth.papers import paper_of
from sameworth.spreads import opened
from tests import drawn, oracle, samples, slowpapers
from tests.handpapers import PAPERS, WHYS, WHYS_PAPER
from tests.things import JUNK

# Each kind of row, named by greater ones.
KINDS = [
    (
        [
            ("take", 0), ("take", 1), ("num", 3), ("num", 0),  # 0 to 3
            ("sum", 0, 1), ("less", 0, 1), ("times", 0, 1), ("times", 4, 5), ("times", 4, 4),  # 4 to 8
            ("sum", 2, 0), ("times", 9, 8), ("sum", 6, 6), ("less", 6, 6), ("times", 3, 0),  # 9 to 13
            ("same", 0, 0), ("same", 0, 1), ("same", 2, 3), ("below", 3, 2), ("below", 2, 3),  # 14 to 18
            ("below", 0, 9), ("same", 11, 2), ("pick", 2, (4, 5)), ("pick", 0, (4, 5)),  # 19 to 22
            ("pick", 11, (5, 4)), ("pick", 0, (7,)), ("times", 14, 18), ("sum", 14, 21),  # 23 to 26
            ("same", 14, 17), ("pick", 14, (0, 22)), ("times", 26, 26),  # 27 to 29
        ],
        ("end",),
    ),
]


class Asked(unittest.TestCase):
    def bad(self, program, paper, row, steps, place):
        with self.assertRaises(BadStep) as held:
            opened(program, paper, row, steps)
        self.assertIs(type(held.exception), BadStep)
        self.assertEqual((held.exception.step, type(held.exception.step)), (place, int), (row, steps))

    def told(self, row, steps, spread):
        """Asked of KINDS without a paper."""
        self.assertEqual(opened(KINDS, [], row, steps), spread, (row, steps))

    def none(self, row, steps, place):
        self.bad(KINDS, [], row, steps, place)


class Steps(Asked):
    def test_a_row_alone(self):
        for row in oracle.with_worth(KINDS):
            self.told(row, [], [((row,), 1)])

    def test_num(self):
        self.told(2, [2], [((), 3)])
        self.told(3, [3], [])
        self.told(9, [9, 2], [((), 3), ((0,), 1)])

    def test_sum_less_and_times(self):
        self.told(4, [4], [((0,), 1), ((1,), 1)])
        self.told(5, [5], [((0,), 1), ((1,), -1)])
        self.told(6, [6], [((0, 1), 1)])
        self.told(11, [11], [((6,), 2)])
        self.told(11, [11, 6], [((0, 1), 2)])
        self.told(12, [12], [])
        self.told(13, [13], [((0, 3), 1)])
        self.told(13, [13, 3], [])

    def test_products_of_several_rows_and_powers(self):
        self.told(7, [7], [((4, 5), 1)])
        self.told(7, [7, 4], [((0, 5), 1), ((1, 5), 1)])
        self.told(7, [7, 5, 4], [((0, 0), 1), ((1, 1), -1)])
        self.told(8, [8], [((4, 4), 1)])
        self.told(8, [8, 4], [((0, 0), 1), ((0, 1), 2), ((1, 1), 1)])
        self.told(10, [10, 8], [((4, 4, 9), 1)])
        self.told(10, [10, 9, 8, 2], [((0, 4, 4), 1), ((4, 4), 3)])
        self.told(10, [10, 9, 8, 4, 2], [
            ((0, 0), 3), ((0, 0, 0), 1), ((0, 0, 1), 2), ((0, 1), 6), ((0, 1, 1), 1), ((1, 1), 3),
        ])

    def test_in_whatever_order(self):
        for steps in ([10, 9, 2, 8, 4], [10, 8, 4, 9, 2], [10, 8, 9, 4, 2]):
            self.assertEqual(opened(KINDS, [], 10, steps), opened(KINDS, [], 10, [10, 9, 8, 4, 2]))

    def test_what_cant_be_done(self):
        self.none(0, [0], 0)  # a take
        self.none(4, [4, 0], 1)
        self.none(4, [4, 4], 1)  # it doesn't stand in it any more
        self.none(12, [12, 6], 1)
        self.none(13, [13, 3, 0], 2)
        self.none(4, [5], 0)
        self.none(4, [2, 4], 0)
        for row in (14, 15, 17, 22, 24):
            self.none(row, [row], 0)  # tests and picks go by pairs
        self.none(26, [26, 14], 1)
        self.bad(samples.CHOICE, [], 5, [5], 0)  # a meet
        self.bad(samples.COUNTERS, [], 15, [15, 4], 1)
        self.none(4, [99], 0)
        self.none(4, [-1], 0)
        self.none(4, [4, 30], 1)
        self.none(4, [10 ** 30], 0)

    def test_what_is_no_step(self):
        for thing in JUNK:
            if thing != 4 or isinstance(thing, bool):
                self.none(4, [thing], 0)
                self.none(4, [4, thing], 1)
                self.none(14, [(14, []), thing], 1)
        self.none(1, [True], 0)
        self.none(4, [4.5], 0)
        self.none(4, [[4]], 0)
        self.none(4, [(4,)], 0)
        self.none(14, [[14, []]], 0)
        self.none(14, [(14, ())], 0)
        self.none(14, [(14, [], [])], 0)
        self.none(14, [(14,)], 0)
        self.none(14, [([], 14)], 0)
        self.none(14, [("14", [])], 0)
        self.none(14, [(14, None)], 0)
        self.none(14, [(14, {})], 0)
        self.none(14, [(True, [])], 0)


class Pairs(Asked):
    def test_same(self):
        self.told(14, [(14, [])], [((), 1)])
        self.told(16, [(16, [2, 3])], [])
        self.told(20, [(20, [11, 2])], [])  # 2 in front of xy doesn't divide 3
        self.none(16, [(16, [])], 0)
        self.none(16, [(16, [2])], 0)  # a row is left
        self.none(20, [(20, [11])], 0)
        self.none(15, [(15, [])], 0)

    def test_below(self):
        self.told(17, [(17, [2, 3])], [((), 1)])
        self.told(18, [(18, [3, 2])], [])
        self.told(19, [(19, [9, 2])], [((), 1)])
        self.none(19, [(19, [9])], 0)
        self.none(19, [(19, [])], 0)
        self.none(17, [(17, [3])], 0)

    def test_pick(self):
        self.told(21, [(21, [2])], [((5,), 1)])
        self.told(23, [(23, [11])], [((5,), 1)])
        self.told(24, [(24, [])], [((7,), 1)])
        self.told(21, [(21, [2]), 5], [((0,), 1), ((1,), -1)])
        self.none(21, [(21, [])], 0)
        self.none(22, [(22, [])], 0)

    def test_wherever_it_stands(self):
        self.told(29, [29, 26, (14, []), (21, [2])], [((), 1), ((5,), 2), ((5, 5), 1)])
        self.told(25, [25, (18, [2, 3])], [])
        self.told(25, [25, (14, [])], [((18,), 1)])

    def test_within_pairs(self):
        self.told(27, [(27, [(14, []), (17, [2, 3])])], [((), 1)])
        self.told(28, [(28, [(14, [])])], [((22,), 1)])
        self.none(27, [(27, [(14, []), (17, [2])])], 0)
        self.none(27, [(27, [(14, [])])], 0)
        self.none(27, [(27, [])], 0)
        self.none(26, [26, (14, []), (21, [2, 2])], 2)

    def test_own_steps_that_cant_be_done(self):
        self.none(26, [26, (14, [0])], 1)
        self.none(26, [26, (14, [None])], 1)
        self.none(26, [26, (21, [3])], 1)
        self.none(26, [26, (21, [2, 5])], 1)

    def test_of_other_kinds_of_rows(self):
        self.none(4, [(4, [])], 0)
        self.none(2, [(2, [])], 0)
        self.none(0, [(0, [])], 0)
        self.none(7, [7, (4, [0])], 1)
        self.bad(samples.CHOICE, [], 5, [(5, [])], 0)

    def test_a_row_that_doesnt_stand_there(self):
        self.none(26, [26, (14, []), (14, [])], 2)
        self.none(26, [(14, [])], 0)
        self.none(4, [(28, [])], 0)
        self.none(4, [(100, [])], 0)
        self.none(4, [(-16, [])], 0)

    def test_what_is_opened_in_a_pair_isnt_opened_around_it(self):
        self.told(26, [26, (21, [2])], [((5,), 1), ((14,), 1)])
        program = [([("num", 1), ("pick", 0, (0, 0)), ("sum", 1, 0)], ("end",))]
        self.assertEqual(opened(program, [], 2, [2, (1, [0])]), [((0,), 2)])


class Entries(Asked):
    def test_by_its_other(self):
        self.assertEqual(opened(WHYS, WHYS_PAPER, 21, []), [((21,), 1)])
        self.assertEqual(opened(WHYS, WHYS_PAPER, 5, [5]), [((1,), 1), ((2,), 1)])
        self.assertEqual(opened(WHYS, WHYS_PAPER, 5, [5, 2]), [((0,), 1), ((1,), 1)])
        self.assertEqual(opened(WHYS, WHYS_PAPER, 19, [19, 2]), [((0,), 1), ((10,), 1)])
        self.assertEqual(opened(samples.COUNTERS, PAPERS[1][1], 10, [10, 5]), [((2,), 1), ((4,), 1)])
        self.assertEqual(opened(samples.COUNTERS, PAPERS[1][1], 15, [15, 7]), [((4,), 2)])

    def test_the_row_itself_is_opened_by_what_its_made_of(self):
        # Row 10 has an entry, but in its own spread it's a sum.
        self.assertEqual(opened(samples.COUNTERS, PAPERS[1][1], 10, [10]), [((2,), 1), ((5,), 1)])
        self.bad(samples.COUNTERS, PAPERS[1][1], 5, [5], 0)
        self.bad(WHYS, WHYS_PAPER, 2, [2], 0)
        self.bad(WHYS, WHYS_PAPER, 21, [21], 0)

    def test_rows_with_an_entry_arent_opened_otherwise(self):
        program = [([("num", 5), ("num", 5), ("sum", 1, 0), ("sum", 1, 1)], ("end",))]
        paper = [(1, 0, ("sums", [1], [0])), (3, 2, ("sums", [3, 1], [2, 1]))]
        self.assertEqual(opened(program, paper, 2, [2, 1]), [((0,), 2)])
        self.assertEqual(opened(program, paper, 2, [2, 0]), [((), 5), ((1,), 1)])
        self.assertEqual(opened(program, paper, 1, [1]), [((), 5)])

    def test_pairs_on_rows_with_an_entry(self):
        # Row 14 has an entry: alone it's replaced by 13, by a pair by what that tells.
        program = [([("take", 0), ("same", 0, 0), ("same", 0, 0), ("sum", 2, 0)], ("end",))]
        paper = [(2, 1, ("sums", [(2, [])], [(1, [])]))]
        self.assertEqual(opened(program, paper, 3, [3, 2]), [((0,), 1), ((1,), 1)])
        self.assertEqual(opened(program, paper, 3, [3, (2, [])]), [((), 1), ((0,), 1)])
        self.assertEqual(opened(program, paper, 2, [(2, [])]), [((), 1)])
        self.bad(program, paper, 2, [2], 0)

    def test_within_pairs_all_entries_may_be_used(self):
        program = [([("take", 0), ("take", 0), ("same", 0, 1), ("sum", 2, 2)], ("end",))]
        paper = [(1, 0, ("takes",))]
        self.assertEqual(opened(program, paper, 3, [3, (2, [1])]), [((), 2)])
        self.bad(program, [], 3, [3, (2, [1])], 1)
        self.assertEqual(opened(program, paper, 2, [(2, [1])]), [((), 1)])

    def test_entries_wherever_in_the_paper(self):
        for program, paper, leasts in PAPERS:
            for row in oracle.with_worth(program):
                self.assertEqual(opened(program, paper[::-1], row, []), [((row,), 1)])
        self.assertEqual(opened(WHYS, WHYS_PAPER[::-1], 5, [5, 2]), [((0,), 1), ((1,), 1)])


class DrawnOnes(Asked):
    def drawn_step(self, rng, rows, row, deep):
        kind = rng.random()
        if kind < 0.03:
            return rng.choice(JUNK)
        x = rng.choice([row, row, *range(row + 1)])
        if deep and rows[x][0] in ("same", "below", "pick") and kind < 0.9:
            first = max(name for name in (rows[x][1], *rows[x][2:]) if type(name) is int)
            return (x, [self.drawn_step(rng, rows, first, deep - 1) for k in range(rng.randrange(4))])
        return x

    def standing_step(self, rng, rows, entries, row, steps):
        """A step that can be done behind these, None where none was found."""
        spread = slowpapers.opened(rows, entries, {(row,): 1}, steps, row)[0]
        standing = sorted({x for product in spread for x in product})
        for k in range(15 if standing else 0):
            x = rng.choice(standing)
            step = self.drawn_step(rng, rows, x, 2) if rows[x][0] in ("same", "below", "pick") else x
            if slowpapers.behind_step(rows, entries, spread, step, row) is not None:
                return step
        return None

    def drawn_steps(self, rng, rows, entries, row):
        """As many as eight steps that can be done, sometimes with any other one behind them."""
        steps = []
        for k in range(rng.randrange(9)):
            step = self.standing_step(rng, rows, entries, row, steps)
            if step is not None:
                steps.append(step)
        if rng.random() < 0.3:
            steps += [self.drawn_step(rng, rows, row, 2), row]
        return steps

    def test_as_the_words_tell(self):
        rng, bad, long = Random(131), 0, 0
        for program in [WHYS, KINDS] * 40 + list(drawn.programs(132, 400)):
            rows, paper = oracle.rows_in(program), rng.choice(([], paper_of(program)))
            entries = {row: other for row, other, why in paper}
            for row in oracle.with_worth(program):
                steps = self.drawn_steps(rng, rows, entries, row)
                spread, place = slowpapers.opened(rows, entries, {(row,): 1}, steps, row)
                if place is None:
                    self.assertEqual(opened(program, paper, row, steps), sorted(spread.items()), (program, row, steps))
                    long += len(steps) > 2
                else:
                    self.bad(program, paper, row, steps, place)
                    bad += 1
        self.assertGreater(bad, 300)
        self.assertGreater(long, 150)


class AskersOwn(Asked):
    def test_kinds(self):
        spread = opened(KINDS, [], 10, [10, 9, 8, 4, 2])
        self.assertIs(type(spread), list)
        for pair in spread:
            self.assertEqual((type(pair), type(pair[0]), type(pair[1])), (tuple, tuple, int))
            self.assertEqual(list(pair[0]), sorted(pair[0]))
        self.assertEqual(spread, sorted(spread))
        self.assertEqual(len({rows for rows, number in spread}), len(spread))
        self.assertTrue(all(number != 0 for rows, number in spread))

    def test_what_is_told_can_be_changed(self):
        first = opened(KINDS, [], 8, [8, 4])
        kept = list(first)
        first.clear()
        self.assertEqual(opened(KINDS, [], 8, [8, 4]), kept)

    def test_what_is_handed_in_stays(self):
        program, paper, steps = deepcopy(WHYS), deepcopy(WHYS_PAPER), [(27, [10, 3, 23, (22, [5])])]
        kept = deepcopy(steps)
        self.assertEqual(opened(program, paper, 27, steps), [])
        self.assertEqual((program, paper, steps), (WHYS, WHYS_PAPER, kept))
        for thing in JUNK:
            steps = [deepcopy(thing)]
            try:
                opened(program, paper, 27, steps)
            except BadStep:
                pass
            self.assertEqual((program, paper, steps), (WHYS, WHYS_PAPER, [thing]))

    def test_the_refusal(self):
        with self.assertRaises(WorthError):
            opened(KINDS, [], 4, [5])


if __name__ == "__main__":
    unittest.main()
