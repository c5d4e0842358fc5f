import ast
import unittest
from copy import deepcopy
from pathlib import Path
from random import Random

from sameworth.numbering import numbers_of
from sameworth.papercheck import leasts_by, shows_paper
from sameworth.papers import paper_of
from tests import drawn, samples, slowpapers
from tests.handpapers import COUNTERS_PAPER, MEETING_PAPER, PAPERS, STEADY_PAPER, WHYS, WHYS_PAPER
from tests.things import JUNK, numbers_otherwise, variants

PACKAGE = Path(__file__).resolve().parent.parent / "sameworth"


def with_entry(paper, *entry):
    """A paper with another entry for the row, or one more."""
    return sorted([old for old in paper if old[0] != entry[0]] + [entry])


class Asked(unittest.TestCase):
    def right(self, program, *papers):
        for paper in papers:
            self.assertIs(shows_paper(program, paper), True, (program, paper))

    def wrong(self, program, *things):
        for thing in things:
            self.assertIs(shows_paper(program, thing), False, (program, thing))

    def entry_wrong(self, program, paper, *entry):
        self.wrong(program, with_entry(paper, *entry))


class Written(Asked):
    def test_by_hand(self):
        for program, paper, leasts in PAPERS:
            self.right(program, paper)
            self.assertEqual(leasts_by(program, paper), leasts)

    def test_no_entries(self):
        for program, numbers in samples.NUMBERED:
            self.right(program, [])

    def test_rows_not_rising(self):
        for program, paper, leasts in PAPERS:
            for at in range(len(paper) - 1):
                turned = list(paper)
                turned[at], turned[at + 1] = turned[at + 1], turned[at]
                self.wrong(program, turned)
            if len(paper) > 1:
                self.wrong(program, paper[::-1])

    def test_a_row_twice(self):
        for program, paper, leasts in PAPERS:
            for at in range(len(paper)):
                self.wrong(program, paper[:at] + [paper[at]] + paper[at:])

    def test_an_other_that_has_an_entry(self):
        program = [([("take", 0)] * 3, ("end",))]
        self.right(program, [(1, 0, ("takes",)), (2, 0, ("takes",))], [(2, 1, ("takes",))], [(2, 0, ("takes",))])
        self.wrong(program, [(1, 0, ("takes",)), (2, 1, ("takes",))])

    def test_an_other_that_isnt_lesser(self):
        program = [([("take", 0)] * 3, ("end",))]
        self.right(program, [(1, 0, ("takes",))])
        self.wrong(program, [(1, 1, ("takes",))], [(0, 1, ("takes",))], [(1, 2, ("takes",))], [(1, -1, ("takes",))])
        self.wrong(program, [(3, 0, ("takes",))], [(1, 5, ("takes",))], [(-2, -3, ("takes",))])
        self.wrong(program, [(0, 0, ("sums", [], []))], [(1, 1, ("sums", [], []))])

    def test_rows_without_a_worth(self):
        program = [([("take", 0), ("tell", 0), ("tell", 0), ("take", 0)], ("end",))]
        self.right(program, [(3, 0, ("takes",))])
        for why in (("takes",), ("sums", [], []), ("parts",), ("meets",), ("tests", [], []), ("picks", [], [])):
            self.wrong(program, [(2, 1, why)], [(3, 1, why)], [(2, 0, why)], [(1, 0, why), (3, 0, ("takes",))])

    def test_true_and_false_are_no_numbers(self):
        program = [([("take", 0), ("take", 0), ("take", 1)], ("end",))]
        self.right(program, [(1, 0, ("takes",))])
        self.wrong(program, [(True, 0, ("takes",))], [(1, False, ("takes",))])
        program = [([("take", 0), ("sum", 0, 0), ("sum", 0, 0)], ("end",))]
        self.right(program, [(2, 1, ("sums", [2], [1]))])
        self.wrong(program, [(2, 1, ("sums", [2], [True]))])

    def test_whys(self):
        program = [([("take", 0), ("take", 0)], ("end",))]
        self.right(program, [(1, 0, ("takes",))])
        for why in (
            (), "takes", ["takes"], ("takes", []), ("takes", [], []), ("take",), ("Takes",), ("",), (None,), None,
            ("sums",), ("sums", []), ("sums", [], [], []), ("sums", [], []), ("sums", (), ()), ("parts",), ("meets",),
            ("tests", [], []), ("picks", [], []), (["takes"],), ({},), (("takes",),), 0, True, {}, {"takes": []},
        ):
            self.wrong(program, [(1, 0, why)])
        for entry in ((1, 0), (1, 0, ("takes",), 0), [1, 0, ("takes",)], (1,), (), None, 1, "takes", {1: 0}):
            self.wrong(program, [entry])
        self.wrong(program, ((1, 0, ("takes",)),), (1, 0, ("takes",)), {1: 0})

    def test_steps_must_be_lists(self):
        program = [([("take", 0), ("num", 0), ("sum", 0, 1)], ("end",))]
        self.right(program, [(2, 0, ("sums", [2, 1], []))])
        self.wrong(program, [(2, 0, ("sums", (2, 1), []))], [(2, 0, ("sums", [2, 1], ()))])
        self.wrong(program, [(2, 0, ("sums", [2, 1], None))], [(2, 0, ("sums", None, []))], [(2, 0, ("sums", 2, 1))])


class Whys(Asked):
    def test_takes(self):
        program = [([("take", 0), ("take", 1), ("take", 0), ("num", 0), ("sum", 0, 3), ("num", 0)], ("end",))]
        self.right(program, [(2, 0, ("takes",))], [(4, 0, ("sums", [4, 3], []))])
        self.wrong(program, [(1, 0, ("takes",))], [(2, 1, ("takes",))], [(4, 0, ("takes",))], [(5, 3, ("takes",))])

    def test_meets(self):
        self.right(samples.COUNTERS, COUNTERS_PAPER)
        # Without what makes the parts' leasts alike the meets aren't so.
        self.wrong(samples.COUNTERS, [(5, 4, ("meets",))], [(7, 4, ("meets",))], COUNTERS_PAPER[:2])
        self.wrong(samples.COUNTERS, [entry for entry in COUNTERS_PAPER if entry[0] != 10])
        self.right(samples.COUNTERS, [entry for entry in COUNTERS_PAPER if entry[0] in (5, 10)])
        self.entry_wrong(samples.COUNTERS, COUNTERS_PAPER, 6, 4, ("meets",))
        self.entry_wrong(samples.COUNTERS, COUNTERS_PAPER, 5, 1, ("meets",))
        self.entry_wrong(samples.COUNTERS, COUNTERS_PAPER, 5, 4, ("parts",))
        self.entry_wrong(samples.COUNTERS, COUNTERS_PAPER, 10, 9, ("meets",))
        self.entry_wrong(samples.MEETING, MEETING_PAPER, 13, 8, ("meets",))
        self.entry_wrong(samples.MEETING, MEETING_PAPER, 9, 8, ("meets",))

    def test_meets_of_two_blocks(self):
        program = [
            ([("take", 0), ("take", 1)], ("if", 0, 1, 2)), ([], ("go", 3)), ([], ("go", 3)),
            ([("meet", (0, 1)), ("meet", (0, 1))], ("if", 0, 4, 5)), ([], ("go", 6)), ([], ("go", 6)),
            ([("meet", (0, 1)), ("meet", (2, 2)), ("meet", (2, 3))], ("end",)),
        ]
        self.right(program, [(3, 2, ("meets",)), (5, 2, ("parts",)), (6, 2, ("parts",))])
        self.wrong(program, [(4, 2, ("meets",))], [(6, 2, ("parts",))], [(6, 5, ("meets",))])
        self.right(program, [(3, 2, ("meets",)), (6, 5, ("meets",))])

    def test_parts(self):
        self.right(samples.STEADY, STEADY_PAPER, [(3, 0, ("parts",))], [(3, 0, ("parts",)), (4, 0, ("parts",))])
        self.wrong(samples.STEADY, [(4, 0, ("parts",))], [(5, 0, ("parts",))])
        self.wrong(samples.STEADY, [(7, 1, ("parts",))], [(7, 0, ("parts",))])
        self.wrong(samples.STEADY, [entry for entry in STEADY_PAPER if entry[0] != 9])
        self.wrong(samples.STEADY, [entry for entry in STEADY_PAPER if entry[0] != 8], [(3, 1, ("parts",))])
        self.entry_wrong(samples.STEADY, STEADY_PAPER, 8, 0, ("parts",))
        self.entry_wrong(samples.STEADY, STEADY_PAPER, 3, 2, ("parts",))

    def test_parts_of_a_pick(self):
        self.right(WHYS, [(2, 0, ("takes",)), (5, 4, ("sums", [5, 2], [4])), (21, 4, ("parts",))])
        self.wrong(WHYS, [(21, 4, ("parts",))], [(21, 5, ("parts",))], [(18, 1, ("parts",))], [(25, 0, ("parts",))])
        program = [([("take", 0), ("take", 1), ("pick", 0, (1, 1)), ("pick", 0, (1,)), ("sum", 1, 1)], ("end",))]
        self.right(program, [(2, 1, ("parts",)), (3, 1, ("parts",))])
        self.wrong(program, [(2, 0, ("parts",))], [(3, 2, ("parts",))], [(4, 1, ("parts",))])

    def test_sums(self):
        self.entry_wrong(WHYS, WHYS_PAPER, 5, 4, ("sums", [5], [4]))  # a step left out
        self.entry_wrong(WHYS, WHYS_PAPER, 5, 4, ("sums", [5, 2], []))
        self.entry_wrong(WHYS, WHYS_PAPER, 5, 4, ("sums", [2], [4]))
        self.entry_wrong(WHYS, WHYS_PAPER, 5, 4, ("sums", [5, 2, 2], [4]))  # a step more
        self.entry_wrong(WHYS, WHYS_PAPER, 5, 4, ("sums", [5, 2], [4, 0]))
        self.entry_wrong(WHYS, WHYS_PAPER, 5, 4, ("sums", [5, 2], [4, 4]))
        self.entry_wrong(WHYS, WHYS_PAPER, 5, 4, ("sums", [4], [5, 2]))
        self.entry_wrong(WHYS, WHYS_PAPER, 5, 4, ("tests", [5, 2], [4]))
        self.entry_wrong(WHYS, WHYS_PAPER, 5, 4, ("picks", [5, 2], [4]))
        self.entry_wrong(WHYS, WHYS_PAPER, 12, 6, ("sums", [12, 11, 10, 3, 7, 8, 9], [6]))
        self.entry_wrong(WHYS, WHYS_PAPER, 16, 3, ("sums", [16], [3]))

    def test_sums_dont_use_the_rows_own_entry(self):
        # By its own entry any row would be any other one.
        self.entry_wrong(WHYS, WHYS_PAPER, 12, 6, ("sums", [12], []))
        self.entry_wrong(WHYS, WHYS_PAPER, 16, 4, ("sums", [16], []))
        self.entry_wrong(samples.COUNTERS, COUNTERS_PAPER, 6, 4, ("sums", [6], []))
        self.entry_wrong(WHYS, WHYS_PAPER, 1, 0, ("sums", [1], []))
        self.wrong([([("take", 0), ("num", 1)], ("end",))], [(1, 0, ("sums", [1], []))])

    def test_sums_by_pairs(self):
        self.entry_wrong(WHYS, WHYS_PAPER, 23, 22, ("sums", [23], [(22, [])]))
        self.entry_wrong(WHYS, WHYS_PAPER, 23, 22, ("sums", [23], [22]))
        self.entry_wrong(WHYS, WHYS_PAPER, 25, 0, ("sums", [(25, [10])], []))
        self.entry_wrong(WHYS, WHYS_PAPER, 25, 1, ("sums", [(25, [10, 3])], []))
        self.entry_wrong(WHYS, WHYS_PAPER, 25, 0, ("sums", [25], []))
        self.entry_wrong(WHYS, WHYS_PAPER, 26, 0, ("sums", [(26, [3])], []))
        self.entry_wrong(WHYS, WHYS_PAPER, 27, 24, ("sums", [(27, [10, 3, 23])], [(24, [5])]))
        self.entry_wrong(WHYS, WHYS_PAPER, 27, 22, ("sums", [(27, [10, 3, 23, (22, [5])])], [(22, [5])]))

    def test_tests(self):
        self.entry_wrong(WHYS, WHYS_PAPER, 14, 13, ("tests", [], []))
        self.entry_wrong(WHYS, WHYS_PAPER, 14, 13, ("tests", [2], [0]))
        self.entry_wrong(WHYS, WHYS_PAPER, 15, 13, ("tests", [], []))
        self.entry_wrong(WHYS, WHYS_PAPER, 17, 15, ("tests", [16], []))
        self.entry_wrong(WHYS, WHYS_PAPER, 17, 15, ("tests", [], [16, 4]))
        self.entry_wrong(WHYS, WHYS_PAPER, 14, 13, ("sums", [2], []))
        self.entry_wrong(WHYS, WHYS_PAPER, 20, 18, ("tests", [19, 2, 10, 3], []))

    def test_tests_that_are_numbers_are_no_tests(self):
        program = [([("take", 0), ("same", 0, 0), ("same", 0, 0), ("below", 0, 0), ("below", 0, 0)], ("end",))]
        self.right(program, [(2, 1, ("sums", [(2, [])], [(1, [])])), (4, 3, ("sums", [(4, [])], [(3, [])]))])
        self.wrong(program, [(2, 1, ("tests", [], []))], [(4, 3, ("tests", [], []))])
        rows = [("take", 0), ("num", 2), ("times", 1, 0), ("num", 1), ("same", 2, 3), ("same", 2, 3)]
        # Behind the steps 2 x is never 1: that's no test, but ahead of them it is one.
        self.wrong([(rows, ("end",))], [(5, 4, ("tests", [2, 1, 3], [2, 1, 3]))])
        self.right([(rows, ("end",))], [(5, 4, ("tests", [2], [2]))], [(5, 4, ("tests", [], []))])

    def test_tests_turned_and_multiplied(self):
        rows = [("take", 0), ("take", 1), ("num", 3), ("times", 2, 0), ("times", 2, 1), ("num", 5)]
        rows += [("same", 0, 1), ("same", 4, 3), ("below", 0, 1), ("below", 3, 4), ("below", 4, 3), ("sum", 3, 5)]
        rows += [("num", 4), ("sum", 3, 12), ("below", 4, 11), ("below", 4, 13), ("same", 0, 12), ("sum", 4, 12)]
        program = [(rows, ("end",))]
        opening = [4, 3, 2]
        self.right(program, [(7, 6, ("tests", opening, []))], [(9, 8, ("tests", opening, []))])
        self.wrong(program, [(10, 8, ("tests", opening, []))], [(8, 6, ("tests", [], []))], [(9, 7, ("tests", [], []))])
        # 3 y is below 3 x + 5 just where it's below 3 x + 4: both where y isn't above x + 1.
        self.right(program, [(15, 14, ("tests", [13, 4, 3, 2, 12], [11, 4, 3, 2, 5]))])
        self.wrong(program, [(15, 14, ("tests", [13, 4, 3, 2], [11, 4, 3, 2]))])
        self.wrong(program, [(15, 10, ("tests", [13, 4, 3, 2, 12], [4, 3, 2]))])

    def test_picks(self):
        self.entry_wrong(WHYS, WHYS_PAPER, 20, 18, ("picks", [19, 2], []))
        self.entry_wrong(WHYS, WHYS_PAPER, 20, 18, ("picks", [19, 10, 3], []))
        self.entry_wrong(WHYS, WHYS_PAPER, 20, 18, ("sums", [19, 2, 10, 3], []))
        self.entry_wrong(WHYS, WHYS_PAPER, 14, 13, ("picks", [2], []))
        self.entry_wrong(WHYS, WHYS_PAPER, 21, 18, ("picks", [], []))

    def test_picks_by_their_parts(self):
        rows = [("take", 0), ("take", 1), ("take", 1), ("pick", 0, (0, 1)), ("pick", 0, (0, 2)), ("pick", 0, (1, 0))]
        rows += [("pick", 0, (0, 1, 1)), ("num", 4), ("times", 7, 0), ("sum", 8, 0)]
        rows += [("pick", 9, (0, 1)), ("pick", 9, (0, 1, 1))]
        program, takes = [(rows, ("end",))], (2, 1, ("takes",))
        self.right(program, [takes, (4, 3, ("picks", [], []))], [(10, 3, ("picks", [9, 8, 7], []))])
        self.wrong(program, [(4, 3, ("picks", [], []))], [(5, 3, ("picks", [], []))], [(6, 3, ("picks", [], []))])
        self.wrong(program, [(10, 3, ("picks", [9, 8], []))], [(10, 3, ("picks", [9], []))])
        self.wrong(program, [(10, 5, ("picks", [9, 8, 7], []))])
        # 5 x has the rest of 2 x by three parts.
        self.wrong(program, [(11, 6, ("picks", [9, 8, 7], []))], [(11, 3, ("picks", [9, 8, 7], []))])
        # A number is left on both sides: one, too, when each number ahead is replaced by its rest.
        rows = [("take", 0), ("take", 1), ("num", 1), ("num", 3), ("pick", 2, (0, 1)), ("pick", 3, (0, 1))]
        self.right([(rows, ("end",))], [(5, 4, ("picks", [3], [2]))])
        self.wrong([(rows, ("end",))], [(5, 4, ("picks", [3], []))], [(5, 4, ("picks", [], []))])


class OneThingOtherwise(Asked):
    def asked(self, program, thing):
        told = shows_paper(program, thing)
        self.assertIs(told, slowpapers.shows_paper(program, thing), (program, thing))
        return told

    def test_anything(self):
        for program, numbers in samples.NUMBERED:
            for thing in JUNK:
                self.asked(program, thing)
                self.asked(program, [thing])
                self.asked(program, [(2, 0, thing)])

    def test_by_hand(self):
        for program, paper, leasts in PAPERS:
            for thing in variants(paper, JUNK):
                self.asked(program, thing)

    def test_other_numbers(self):
        for program, paper, leasts in PAPERS:
            for thing in numbers_otherwise(paper, range(-1, len(leasts) + 1)):
                self.asked(program, thing)

    def test_other_whys(self):
        whys = [why for program, paper, leasts in PAPERS for row, other, why in paper]
        for program, paper, leasts in PAPERS:
            for at, (row, other, why) in enumerate(paper):
                for instead in whys:
                    self.asked(program, paper[:at] + [(row, other, instead)] + paper[at + 1:])

    def test_what_is_taken_is_so(self):
        # However a paper came to be: what it tells alike the widest reading does, too.
        rng, taken = Random(151), 0
        for program in list(drawn.programs(152, 250)) + [WHYS, samples.COUNTERS, samples.STEADY]:
            numbers, paper = numbers_of(program), paper_of(program)
            papers = [[entry for entry in paper if rng.random() < 0.7] for k in range(4)]
            others = list(numbers_otherwise(paper, range(len(numbers))))
            papers += rng.sample(others, min(20, len(others)))
            for thing in papers:
                if self.asked(program, thing):
                    for row, least in enumerate(leasts_by(program, thing)):
                        if least is not None:
                            self.assertEqual(numbers[row], numbers[least], (program, thing))
                    taken += 1
        self.assertGreater(taken, 300)

    def test_entries_that_would_make_great_spreads(self):
        # Were 10 and 11 as row 9, the meet's 32nd power would be beyond all bounds.
        rows = [("take", place) for place in range(4)] + [("sum", 0, 1), ("sum", 2, 3), ("times", 4, 5)]
        rows += [("times", at, at) for at in (6, 7, 8)] + [("take", 4), ("take", 5)]
        program = [
            (rows, ("if", 0, 1, 2)), ([], ("go", 2)),
            ([("meet", (10, 11))] + [("times", at, at) for at in range(12, 17)] + [("times", 16, 16)], ("end",)),
        ]
        opening = [16, 15, 14, 13, 12, 9, 8, 7, 6, 4, 5]
        last = (18, 17, ("sums", [18] + opening, [17] + opening))
        self.right(program, [(18, 17, ("sums", [18], [17]))])
        false = [(10, 9, ("sums", [], [])), (11, 9, ("sums", [], []))]
        self.wrong(program, false + [(12, 9, ("parts",)), last], [(12, 9, ("parts",)), last])


class Leasts(unittest.TestCase):
    def test_told(self):
        program = [([("take", 0), ("tell", 0), ("take", 0), ("take", 1), ("take", 1), ("tell", 3)], ("end",))]
        self.assertEqual(leasts_by(program, []), [0, None, 2, 3, 4, None])
        self.assertEqual(leasts_by(program, [(4, 3, ("takes",))]), [0, None, 2, 3, 3, None])
        self.assertEqual(leasts_by(program, [(2, 0, ("takes",)), (4, 3, ("takes",))]), [0, None, 0, 3, 3, None])

    def test_wherever_in_the_paper(self):
        for program, paper, leasts in PAPERS:
            for at in range(len(paper)):
                expected = [at if least is not None else None for at, least in enumerate(leasts)]
                expected[paper[at][0]] = paper[at][1]
                self.assertEqual(leasts_by(program, [paper[at]]), expected)

    def test_what_is_told_can_be_changed(self):
        for program, paper, leasts in PAPERS:
            told = leasts_by(program, paper)
            self.assertIs(type(told), list)
            told.append("spoilt")
            told.reverse()
            self.assertEqual(leasts_by(program, paper), leasts)


class HandedIn(unittest.TestCase):
    def test_stays_as_it_was(self):
        for program, paper, leasts in PAPERS:
            handed, asked = deepcopy(program), deepcopy(paper)
            self.assertIs(shows_paper(handed, asked), True)
            leasts_by(handed, asked)
            self.assertEqual((handed, asked), (program, paper))
            self.assertIs(shows_paper(handed, asked), True)
        for thing in JUNK:
            asked = deepcopy(thing)
            shows_paper(samples.COUNTERS, asked)
            self.assertEqual(asked, thing)


class KnowsNothingOfPapers(unittest.TestCase):
    def test_what_it_needs(self):
        needed, todo = set(), ["papercheck"]
        while todo:
            name = todo.pop()
            if name not in needed:
                needed.add(name)
                body = ast.parse((PACKAGE / f"{name}.py").read_text(encoding="utf-8")).body
                todo += [node.module.split(".")[1] for node in body if isinstance(node, ast.ImportFrom)]
        self.assertEqual(needed & {"papers", "numbering", "readings", "forms", "rowforms"}, set())


if __name__ == "__main__":
    unittest.main()
