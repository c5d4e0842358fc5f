import unittest
from copy import deepcopy

from sameworth.numbering import numbers_of
from sameworth.papercheck import leasts_by, shows_paper
from sameworth.papers import paper_of
from tests import drawn, samples, slowpapers
from tests.handpapers import PAPERS, WHYS


def how_deep(thing):
    return 1 + max(map(how_deep, thing), default=0) if isinstance(thing, (list, tuple)) else 0


def lists_in(thing):
    """All lists in a thing, and the thing itself where it's one."""
    if isinstance(thing, (list, tuple)):
        if isinstance(thing, list):
            yield thing
        for item in thing:
            yield from lists_in(item)


# Programs whose papers need steps of each kind: tests that are known, within tests and picks, too.
KNOWN = [
    (
        [
            ("take", 0), ("same", 0, 0), ("below", 0, 0), ("sum", 1, 2), ("same", 1, 2),  # 1, 0, 1, 0
            ("below", 2, 1), ("pick", 5, (2, 0)), ("pick", 4, (0, 1)), ("times", 6, 7),  # 1, x, x, xx
            ("times", 0, 6), ("same", 8, 9), ("num", 0), ("num", 1), ("less", 11, 12),  # xx, 1, 0, 1, -1
            ("below", 13, 11), ("pick", 13, (1, 2, 0)), ("same", 15, 6), ("num", 2),  # 1, x, 1, 2
            ("times", 17, 9), ("same", 18, 12), ("pick", 18, (1, 0)),  # 2 xx, 0, 1
            ("pick", 0, (18, 19)), ("pick", 20, (19, 11)),  # 2 xx or 0 by x, 0
        ],
        ("end",),
    ),
]
KNOWN_NUMBERS = [0, 1, 2, 1, 2, 1, 0, 0, 8, 8, 1, 2, 1, 13, 1, 0, 1, 17, 18, 2, 1, 21, 2]

# Tests and picks that come round as alike ones.
ROUND_TESTS = [
    ([("take", 0), ("take", 1), ("num", 1), ("num", 0)], ("go", 1)),
    (
        [
            ("meet", (0, 10)), ("meet", (0, 11)), ("same", 4, 1), ("same", 1, 5),  # 4 to 7
            ("pick", 4, (0, 6)), ("pick", 5, (0, 7)),  # 8, 9
        ],
        ("if", 6, 2, 3),
    ),
    ([("sum", 8, 2), ("sum", 2, 9), ("below", 4, 5), ("below", 8, 9)], ("go", 1)),  # 10 to 13
    ([("less", 8, 9), ("tell", 14)], ("end",)),  # 14, 15
]
ROUND_TESTS_NUMBERS = [0, 1, 2, 3, 4, 4, 6, 6, 8, 8, 10, 10, 3, 3, 3, None]

ALL = samples.NUMBERED + [(KNOWN, KNOWN_NUMBERS), (ROUND_TESTS, ROUND_TESTS_NUMBERS)]
ALL += [(program, leasts) for program, paper, leasts in PAPERS]


class Told(unittest.TestCase):
    def fits(self, program, numbers):
        paper = paper_of(program)
        self.assertIs(shows_paper(program, paper), True, (program, paper))
        self.assertTrue(slowpapers.shows_paper(program, paper), (program, paper))
        self.assertEqual(leasts_by(program, paper), numbers, program)
        return paper

    def test_samples(self):
        for program, numbers in ALL:
            self.assertEqual(numbers_of(program), numbers)
            self.fits(program, numbers)

    def test_each_why_is_used(self):
        whys = {why[0] for program, numbers in ALL for row, other, why in paper_of(program)}
        self.assertEqual(whys, {"takes", "meets", "parts", "sums", "tests", "picks"})

    def test_drawn_programs(self):
        for program in list(drawn.programs(141, 900)) + list(drawn.programs(142, 60, 12, 6)):
            self.fits(program, numbers_of(program))

    def test_nothing_alike(self):
        self.assertEqual(paper_of(samples.UNLIKE), [])
        self.assertEqual(paper_of(samples.BARE), [])

    def test_just_the_rows_that_arent_their_own_number(self):
        for program, numbers in ALL:
            entered = [(row, other) for row, other, why in paper_of(program)]
            self.assertEqual(entered, [(a, b) for a, b in enumerate(numbers) if b not in (None, a)])

    def test_at_most_ten_deep(self):
        for program in [WHYS, KNOWN, ROUND_TESTS] + list(drawn.programs(143, 300)):
            self.assertLessEqual(how_deep(paper_of(program)), 10)

    def test_great_forms(self):
        # (1 + a + .. + f) to the fourth power has 210 products, come to in three ways.
        rows = [("take", place) for place in range(6)] + [("num", 1)]
        rows += [("sum", 6 + place, place) for place in range(6)]
        rows += [("times", 12, 12), ("times", 13, 13), ("times", 13, 12), ("times", 12, 15), ("times", 15, 12)]
        rows += [("less", 14, 16), ("same", 14, 17), ("sum", 16, 18)]
        self.fits([(rows, ("end",))], [*range(14), 14, 15, 14, 14, 18, 6, 14])

    def test_many_rows(self):
        # x to the power 40, step by step and by halves.
        rows = [("take", 0)] + [("times", 0, power - 1) for power in range(1, 40)]
        rows += [("times", power // 2, power - power // 2 - 1) for power in range(1, 40)]
        program = [(rows, ("end",))]
        self.assertEqual(len(rows), 79)
        self.fits(program, numbers_of(program))
        self.assertEqual(numbers_of(program)[40:], list(range(1, 40)))

    def test_a_long_chain_of_tests(self):
        # Each test is within the next one, all of them twice.
        rows = [("take", 0), ("take", 1)]
        for at in range(2, 48, 2):
            rows += [("same", at - 2, at - 1), ("below", at - 1, at - 2)]
        rows += [(word, *[name if name < 2 else name + 46 for name in names]) for word, *names in rows[2:]]
        program = [(rows, ("end",))]
        numbers = numbers_of(program)
        self.assertEqual(numbers[48:], numbers[2:48])
        self.fits(program, numbers)


class AskersOwn(unittest.TestCase):
    def test_kinds(self):
        for program, numbers in ALL:
            paper = paper_of(program)
            self.assertIs(type(paper), list)
            for entry in paper:
                self.assertEqual([type(part) for part in entry], [int, int, tuple])
                self.assertIs(type(entry), tuple)

    def test_what_is_told_can_be_changed(self):
        for program, numbers in ALL:
            kept, paper = deepcopy(paper_of(program)), paper_of(program)
            for told in list(lists_in(paper)):
                told.append("spoilt")
                told.reverse()
            self.assertEqual(paper_of(program), kept)

    def test_no_list_twice_in_one_answer(self):
        for program in [program for program, numbers in ALL] + list(drawn.programs(144, 100)):
            places = [id(told) for told in lists_in(paper_of(program))]
            self.assertEqual(len(places), len(set(places)))

    def test_what_is_handed_in_stays(self):
        for program, numbers in ALL:
            handed = deepcopy(program)
            paper = paper_of(handed)
            kept = deepcopy(paper)
            self.assertEqual(handed, program)
            for rows, end in handed:
                rows.clear()
            handed.clear()
            self.assertEqual(paper, kept)


if __name__ == "__main__":
    unittest.main()
