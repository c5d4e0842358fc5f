import unittest
from copy import deepcopy

from sameworth.runs import run
from tests import drawn, samples, slowruns

NOUGHTS = [0] * 6
GREAT = 10 ** 40


def one_block(*rows):
    return [(list(rows), ("end",))]


def squares(start, times):
    """A num and so many rows behind it, each the one ahead by itself."""
    return [("num", start)] + [("times", row, row) for row in range(times)]


# Two meets of a round exchange their worths, and a third counts down.
EXCHANGE = [
    ([("take", 0), ("take", 1), ("take", 2), ("num", 1)], ("go", 1)),
    ([("meet", (0, 5)), ("meet", (1, 4)), ("meet", (2, 7)), ("less", 6, 3)], ("if", 6, 1, 2)),
    ([("tell", 4), ("tell", 5)], ("end",)),
]


class Rows(unittest.TestCase):
    def worth(self, row, takes=(7, -3, 0, 10, 2, -8)):
        """The worth of a row behind six takes."""
        program = one_block(*[("take", place) for place in range(6)], row, ("tell", 6))
        state, told, done = run(program, list(takes), 100)
        self.assertEqual((state, done[6:]), ("ended", [(6, told[0]), (7, None)]))
        return told[0]

    def test_take_and_num(self):
        self.assertEqual([self.worth(("take", place)) for place in range(6)], [7, -3, 0, 10, 2, -8])
        self.assertEqual([self.worth(("num", n)) for n in (0, -5, 10 ** 12)], [0, -5, 10 ** 12])

    def test_of_two_rows(self):
        cases = [
            ("sum", 0, 1, 4), ("sum", 5, 5, -16), ("less", 0, 1, 10), ("less", 1, 0, -10), ("less", 3, 3, 0),
            ("times", 1, 5, 24), ("times", 0, 1, -21), ("times", 2, 3, 0),
            ("same", 0, 0, 1), ("same", 0, 1, 0), ("same", 1, 0, 0),
            ("below", 1, 0, 1), ("below", 0, 1, 0), ("below", 0, 0, 0), ("below", 5, 1, 1),
        ]
        for word, a, b, worth in cases:
            with self.subTest(word=word, a=a, b=b):
                self.assertEqual(self.worth((word, a, b)), worth)

    def test_pick_by_rests(self):
        # By three parts 7 has the rest 1, -3 and 0 have 0, 10 has 1, 2 has 2, and -8 has 1.
        for row, worth in enumerate((-3, 7, 7, -3, 0, -3)):
            self.assertEqual(self.worth(("pick", row, (0, 1, 2))), worth)
        self.assertEqual(self.worth(("pick", 5, (3,))), 10)
        self.assertEqual(self.worth(("pick", 1, (0, 1, 2, 3, 4))), 0)

    def test_pick_by_each_number_near_nought(self):
        for n in range(-9, 10):
            for many in (1, 2, 3, 4, 7):
                program = one_block(
                    ("take", 0), *[("num", 100 + k) for k in range(many)], ("pick", 0, tuple(range(1, many + 1))),
                )
                self.assertEqual(run(program, [n] + [0] * 5, 99)[2][-1], (many + 1, 100 + n % many))

    def test_rooms_hold_nought_at_first(self):
        for room in range(6):
            program = one_block(("take", 0), ("look", (room,), 0), ("tell", 1))
            self.assertEqual(run(program, [5] * 6, 99)[1], [0])

    def test_lay_and_look(self):
        program = one_block(
            ("take", 0), ("take", 1),
            ("lay", (4, 2, 5), 0, 1), ("lay", (3,), 1, 0),
            *[("look", (room,), 0) for room in range(6)],
            ("look", (5, 4, 2), 0), ("look", (3, 2), 1),
        )
        # -2 picks the second of three rooms (its rest is 1), and of two the first one.
        state, told, done = run(program, [-2, 9, 0, 0, 0, 0], 99)
        self.assertEqual(done[2:4], [(2, None), (3, None)])
        self.assertEqual([worth for row, worth in done[4:]], [0, 0, 9, -2, 0, 0, 0, 9])
        self.assertEqual((state, told), ("ended", []))

    def test_lay_picks_by_each_rest(self):
        for n in range(-6, 7):
            program = one_block(
                ("take", 0), ("num", 5), ("lay", (1, 3, 0), 0, 1), *[("look", (room,), 0) for room in range(6)],
            )
            held = [0] * 6
            held[(1, 3, 0)[n % 3]] = 5
            self.assertEqual([worth for row, worth in run(program, [n] + [0] * 5, 99)[2][3:]], held)
            program = one_block(("num", 8), ("take", 0), ("lay", (3,), 0, 0), ("look", (5, 3, 4, 0), 1), ("tell", 3))
            self.assertEqual(run(program, [n] + [0] * 5, 99)[1], [8 if n % 4 == 1 else 0])

    def test_a_room_is_laid_anew(self):
        program = one_block(
            ("num", 1), ("num", 2), ("lay", (0,), 0, 0), ("look", (0,), 0), ("lay", (0,), 0, 1), ("look", (0,), 0),
            ("tell", 3), ("tell", 5),
        )
        self.assertEqual(run(program, NOUGHTS, 99)[1], [1, 2])

    def test_tell(self):
        program = one_block(("take", 0), ("tell", 0), ("num", 4), ("tell", 2), ("tell", 0))
        self.assertEqual(
            run(program, [-6, 0, 0, 0, 0, 0], 99),
            ("ended", [-6, 4, -6], [(0, -6), (1, None), (2, 4), (3, None), (4, None)]),
        )


class Ends(unittest.TestCase):
    def test_if_isnt_nought(self):
        for n in (-2, -1, 0, 1, 2):
            program = [([("take", 0), ("num", 8), ("num", 9)], ("if", 0, 1, 2)), ([("tell", 1)], ("end",))]
            program += [([("tell", 2)], ("end",))]
            self.assertEqual(run(program, [n] + [0] * 5, 99)[1], [9 if n == 0 else 8])

    def test_if_names_the_greater_block_first(self):
        program = [([("take", 0)], ("if", 0, 2, 1)), ([("num", 5)], ("end",)), ([("num", 6)], ("end",))]
        self.assertEqual(run(program, [1] * 6, 99)[2], [(0, 1), (2, 6)])
        self.assertEqual(run(program, [0] * 6, 99)[2], [(0, 0), (1, 5)])

    def test_go_over_blocks_without_rows(self):
        program = [([], ("go", 1)), ([], ("go", 2)), ([("num", 1)], ("end",))]
        self.assertEqual(run(program, NOUGHTS, 99), ("ended", [], [(0, 1)]))
        self.assertEqual(run(samples.BARE, NOUGHTS, 1), ("ended", [], []))


class Meets(unittest.TestCase):
    def test_the_lead_come_from(self):
        self.assertEqual(run(samples.CHOICE, [5] + [0] * 5, 99)[1], [6])
        self.assertEqual(run(samples.CHOICE, NOUGHTS, 99)[1], [-1, -1])
        self.assertEqual(run(samples.SHORT_CUT, [3] * 6, 99)[1], [3])
        self.assertEqual(run(samples.SHORT_CUT, NOUGHTS, 99)[1], [4])

    def test_meets_that_exchange(self):
        for many in range(6):
            swapped = [20, 10] if many % 2 else [10, 20]
            self.assertEqual(run(EXCHANGE, [10, 20, many, 0, 0, 0], 999)[:2], ("ended", swapped))

    def test_three_meets_that_go_round(self):
        program = [
            ([("take", 0), ("take", 1), ("take", 2)], ("go", 1)),
            ([("meet", (0, 4)), ("meet", (1, 5)), ("meet", (2, 3))], ("if", 0, 1, 2)),
            ([], ("end",)),
        ]
        done = run(program, [1, 2, 3, 0, 0, 0], 4 + 4 * 4)[2]
        self.assertEqual([worth for row, worth in done], [1, 2, 3, 1, 2, 3, 2, 3, 1, 3, 1, 2, 1, 2, 3])

    def test_a_meet_has_the_worth_as_the_block_was_come_to(self):
        # The second meet's part is the first one: it has that one's worth of the round ahead.
        program = [
            ([("take", 0), ("num", 1)], ("go", 1)),
            ([("meet", (0, 4)), ("meet", (1, 2)), ("sum", 2, 1)], ("if", 0, 1, 2)),
            ([], ("end",)),
        ]
        done = run(program, [5] * 6, 15)[2]
        self.assertEqual(done[2:], [(2, 5), (3, 1), (4, 6), (2, 6), (3, 5), (4, 7), (2, 7), (3, 6), (4, 8)])

    def test_done_one_by_one(self):
        # Each meet is a step of its own.
        self.assertEqual(run(EXCHANGE, [1, 2, 3, 0, 0, 0], 8)[2][4:], [(4, 1), (5, 2)])
        self.assertEqual(run(EXCHANGE, [1, 2, 3, 0, 0, 0], 12)[2][8:], [(4, 2)])
        self.assertEqual(run(EXCHANGE, [1, 2, 3, 0, 0, 0], 13)[2][8:], [(4, 2), (5, 1)])


class Steps(unittest.TestCase):
    def test_most_nought(self):
        for program in samples.SMALL:
            self.assertEqual(run(program, NOUGHTS, 0), ("going", [], []))

    def test_coming_to_a_block_is_a_step(self):
        program = [([("num", 1)], ("go", 1)), ([("num", 2)], ("end",))]
        expected = [
            ("going", [], []), ("going", [], []), ("going", [], [(0, 1)]), ("going", [], [(0, 1)]),
            ("ended", [], [(0, 1), (1, 2)]), ("ended", [], [(0, 1), (1, 2)]),
        ]
        self.assertEqual([run(program, NOUGHTS, most) for most in range(6)], expected)

    def test_an_end_is_no_step(self):
        self.assertEqual(run(one_block(("num", 1)), NOUGHTS, 2)[0], "ended")
        self.assertEqual(run(one_block(("num", 1)), NOUGHTS, 1)[0], "going")
        self.assertEqual(run([([], ("go", 1)), ([], ("end",))], NOUGHTS, 2)[0], "ended")
        self.assertEqual(run([([], ("go", 1)), ([], ("end",))], NOUGHTS, 1)[0], "going")

    def test_each_number_of_steps(self):
        for program in samples.SMALL + [EXCHANGE]:
            for takes in ([3, 1, 2, 0, 0, 0], NOUGHTS, [-2, 5, 1, 1, 1, 7]):
                happened = slowruns.events(program, takes, 60)
                for most in range(55):
                    self.assertEqual(run(program, takes, most), slowruns.cut(happened, most)[0], (program, most))

    def test_each_number_of_steps_of_drawn_programs(self):
        for program in drawn.programs(61, 120, rooms=True, times=4):
            for takes in drawn.takes(62, 3):
                happened = slowruns.events(program, takes, 60)
                for most in range(0, 55):
                    self.assertEqual(run(program, takes, most), slowruns.cut(happened, most)[0], (program, takes, most))

    def test_thousands_of_steps(self):
        takes = [5000, 0, 0, 0, 0, 0]
        happened = slowruns.events(samples.ROUND, takes, 30000)
        for most in (21999, 22000):
            self.assertEqual(run(samples.ROUND, takes, most), slowruns.cut(happened, most)[0])
        state, told, done = run(samples.ROUND, [3000, 0, 0, 0, 0, 0], 22000)
        self.assertEqual((state, told), ("ended", [3000]))
        self.assertEqual(len(done), 3 + 3001 * 3 + 3000 + 1)

    def test_going_round_for_ever(self):
        program = [([], ("go", 1)), ([], ("go", 1))]
        self.assertEqual(run(program, NOUGHTS, 22000), ("going", [], []))


class Great(unittest.TestCase):
    def test_just_above_and_not_at_it(self):
        for n, state in ((-1, "ended"), (0, "ended"), (1, "great")):
            program = one_block(*squares(10 ** 10, 2), ("num", n), ("sum", 2, 3), ("tell", 4))
            told = [GREAT + n] if state == "ended" else []
            done = [(0, 10 ** 10), (1, 10 ** 20), (2, GREAT), (3, n), (4, GREAT + n), (5, None)]
            self.assertEqual(run(program, NOUGHTS, 99), (state, told, done if told else done[:4]))

    def test_just_below(self):
        for n, state in ((-1, "great"), (0, "ended"), (1, "ended")):
            rows = [("num", 10 ** 10), ("times", 0, 0), ("num", 0), ("less", 2, 1), ("times", 1, 3), ("num", n)]
            done = run(one_block(*rows, ("sum", 4, 5)), NOUGHTS, 99)
            self.assertEqual(done[0], state)
            self.assertEqual(done[2][-1], (6, n - GREAT) if state == "ended" else (5, n))

    def test_each_kind_of_row(self):
        for row in (("times", 1, 2), ("sum", 2, 2)):
            state, told, done = run(one_block(*squares(10 ** 10, 2), row, ("tell", 0)), NOUGHTS, 99)
            self.assertEqual((state, told, len(done)), ("great", [], 3))
        rows = [*squares(10 ** 10, 2), ("num", -1), ("less", 3, 2), ("tell", 0)]
        self.assertEqual(run(one_block(*rows), NOUGHTS, 99)[0], "great")

    def test_what_a_row_names_may_be_at_it(self):
        for row in (("pick", 0, (2, 2)), ("same", 2, 2), ("below", 0, 2), ("less", 2, 2), ("lay", (0,), 0, 2)):
            self.assertEqual(run(one_block(*squares(10 ** 10, 2), row), NOUGHTS, 99)[0], "ended")

    def test_a_step_that_isnt_done_since_most_were(self):
        program = one_block(*squares(10 ** 30, 1), ("tell", 0))
        done = [(0, 10 ** 30)]
        self.assertEqual(run(program, NOUGHTS, 1), ("going", [], []))
        self.assertEqual(run(program, NOUGHTS, 2), ("going", [], done))
        self.assertEqual(run(program, NOUGHTS, 3), ("great", [], done))
        self.assertEqual(run(program, NOUGHTS, 22000), ("great", [], done))

    def test_nothing_behind_it(self):
        program = [
            ([("take", 0), ("tell", 0)], ("go", 1)),
            ([("meet", (0, 3)), ("times", 2, 2), ("tell", 3)], ("if", 0, 1, 2)),
            ([("tell", 0)], ("end",)),
        ]
        state, told, done = run(program, [10] * 6, 999)
        self.assertEqual((state, told), ("great", [10] + [10 ** 2 ** k for k in range(1, 6)]))
        self.assertEqual(done[-1], (2, 10 ** 32))


class AskersOwn(unittest.TestCase):
    def test_kinds(self):
        told = run(EXCHANGE, [1, 2, 3, 4, 5, 6], 30)
        self.assertEqual([type(part) for part in told], [str, list, list])
        self.assertIs(type(told), tuple)
        self.assertEqual({type(pair) for pair in told[2]}, {tuple})

    def test_what_is_told_can_be_changed(self):
        for program in samples.SMALL:
            first = deepcopy(run(program, [1] * 6, 40))
            told = run(program, [1] * 6, 40)
            told[1].append("spoilt")
            told[2].clear()
            self.assertEqual(run(program, [1] * 6, 40), first)

    def test_what_is_handed_in_stays(self):
        for program in samples.SMALL:
            handed, takes = deepcopy(program), [1, 2, 3, 4, 5, 6]
            told = run(handed, takes, 40)
            self.assertEqual((handed, takes), (program, [1, 2, 3, 4, 5, 6]))
            kept = deepcopy(told)
            takes.reverse()
            handed.clear()
            self.assertEqual(told, kept)


if __name__ == "__main__":
    unittest.main()
