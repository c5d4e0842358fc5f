import unittest

from sameworth.away import taken_away
from sameworth.desk import run_desk
from sameworth.differing import differing
from sameworth.errors import BadRow, NoProgram
from sameworth.homes import home_of, there_at
from sameworth.numbering import numbers_of
from sameworth.putting import put_ins
from sameworth.roomless import roomless
from sameworth.runs import run
from sameworth.seen import seen_from
from sameworth.texts import program_text
from tests import drawn, oracle, samples, slowputs
from tests.owning import check_own
from tests.slowputs import RECKONINGS

# A choice with rooms: 0 and 1 are taken; 3 looks at what 2 laid; on the other way the room holds 0.
ROOMS = """block
take 0
take 1
below 0 1
if 2 1 2
block
lay 0 1 4
look 0 4
sum 0 4
tell 5
go 3
block
go 3
block
look 0 4
sum 0 1
tell 8
tell 7
end"""
# Row 3 is lay, 4 look, 5 sum, 6 tell, 7 look, 8 sum, 9 and 10 tell.
ROOMS_PROGRAM = [
    ([("take", 0), ("take", 1), ("below", 0, 1)], ("if", 2, 1, 2)),
    ([("lay", (4,), 0, 1), ("look", (4,), 0), ("sum", 0, 4), ("tell", 5)], ("go", 3)),
    ([], ("go", 3)),
    ([("look", (4,), 0), ("sum", 0, 1), ("tell", 8), ("tell", 7)], ("end",)),
]


def desk(text, *asks):
    return run_desk("\n".join([text, "", *asks]))


def answer(text, ask):
    answers = desk(text, ask)
    assert len(answers) == 1
    return answers[0]


class Asks(unittest.TestCase):
    def test_the_sample(self):
        self.assertEqual(program_text(ROOMS_PROGRAM), ROOMS)
        self.assertEqual(roomless(ROOMS_PROGRAM), (
            [
                ([("num", 0), ("take", 0), ("take", 1), ("below", 1, 2)], ("if", 3, 1, 2)),
                ([("sum", 1, 2), ("tell", 4)], ("go", 3)),
                ([], ("go", 3)),
                ([("meet", (2, 0)), ("sum", 1, 2), ("tell", 7), ("tell", 6)], ("end",)),
            ],
            [1, 2, 3, None, 2, 4, 5, 6, 7, 8, 9],
        ))

    def test_numbers(self):
        self.assertEqual(answer(ROOMS, "numbers"), "0 1 2 - 1 5 - 7 5 - -")
        self.assertEqual(answer("block\nend", "numbers"), "-")
        self.assertEqual(answer("block\ntake 0\nend", "numbers"), "0")
        self.assertEqual(answer("block\ntake 0\ntell 0\nend", "numbers"), "0 -")

    def test_alike(self):
        for ask, told in (
            ("alike 1 4", "yes"), ("alike 4 1", "yes"), ("alike 5 8", "yes"), ("alike 0 1", "no"), ("alike 7 4", "no"),
            ("alike 7 7", "yes"), ("alike 2 0", "no"),
        ):
            self.assertEqual(answer(ROOMS, ask), told)

    def test_differ(self):
        # In the first try -6 and -5 are taken: the room's nought and three rows come ahead.
        for ask, told in (
            ("differ 0 1", "run 0 3"), ("differ 1 0", "run 0 3"), ("differ 1 4", "open"), ("differ 5 8", "open"),
            ("differ 0 0", "open"), ("differ 0 2", "run 0 4"), ("differ 5 7", "run 0 7"), ("differ 7 8", "run 0 8"),
        ):
            self.assertEqual(answer(ROOMS, ask), told, ask)

    def test_differ_by_sixty_tries(self):
        # The first try in which both numbers are as told is a late one, or there's none.
        def text(one, other):
            rows = ["take 0", f"num {one}", "take 1", f"num {other}", "same 0 1", "same 2 3", "times 4 5", "num 0"]
            return "\n".join(["block", *rows, "end"])
        firsts = {}
        for k in range(100):
            takes = [(k * (i + 3) + k // 7 * (5 * i + 1) + i * i) % 13 - 6 for i in (0, 1)]
            firsts.setdefault(tuple(takes), k)
        late = max((k, pair) for pair, k in firsts.items() if k < 60)
        self.assertGreater(late[0], 50)
        self.assertEqual(answer(text(*late[1]), "differ 6 7"), f"run {late[0]} 8")
        too_late = [pair for pair, k in firsts.items() if k >= 60]
        self.assertEqual(answer(text(*too_late[0]), "differ 6 7"), "open")

    def test_home(self):
        for ask, told in (("home 0", "0"), ("home 5", "0"), ("home 7", "3"), ("home 8", "0")):
            self.assertEqual(answer(ROOMS, ask), told)
        text = program_text(samples.COUNTERS)
        self.assertEqual(desk(text, "home 4", "home 15", "home 14"), ["1", "1", "0"])

    def test_seen(self):
        for ask, told in (
            ("seen 1 1 4", "yes"), ("seen 0 0 1", "no"), ("seen 1 5 8", "-"), ("seen 1 8 5", "-"), ("seen 0 1 5", "-"),
            ("seen 3 5 8", "-"), ("seen 3 7 8", "no"), ("seen 3 0 0", "yes"), ("seen 2 0 7", "-"), ("seen 2 7 7", "-"),
            # The look in block 1 is borne by what is taken in block 0, and so are seen further on.
            ("seen 3 4 1", "yes"), ("seen 2 4 1", "yes"), ("seen 0 4 0", "no"),
        ):
            self.assertEqual(answer(ROOMS, ask), told, ask)
        text = "block\ntake 0\ntake 1\nsame 0 1\nif 2 1 2\nblock\nend\nblock\nend"
        self.assertEqual(desk(text, "seen 0 0 1", "seen 1 0 1", "seen 2 0 1"), ["no", "yes", "no"])

    def test_away(self):
        self.assertEqual(answer(ROOMS, "away"), "0")
        self.assertEqual(answer("block\nend", "away"), "0")
        self.assertEqual(answer("block\ntake 0\nsum 0 0\nsum 0 0\nless 1 0\ntake 0\ntell 2\nend", "away"), "2")
        # A look at one room is no reckoning of the program without rooms, a lay into two is two picks.
        self.assertEqual(answer("block\ntake 0\nlay 0 0 1\nlook 0 1\nsum 0 0\nsum 2 2\nend", "away"), "1")
        self.assertEqual(answer("block\ntake 0\nlay 0 0 1 2\nlook 0 1 2\nlook 0 1 2\nend", "away"), "1")
        self.assertEqual(answer("block\ntake 0\nlook 0 1 2\nlook 0 1 2\nend", "away"), "2")

    def test_put(self):
        # The sum in block 1 is row 4 of the program without rooms.
        self.assertEqual(answer(ROOMS, "put"), "4:2:3")
        self.assertEqual(answer("block\nend", "put"), "-")
        text = ("block\ntake 0\nif 0 1 2\nblock\nsum 0 0\ntimes 1 1\ngo 3\nblock\ngo 3\n"
                "block\nsum 0 0\ntimes 3 3\ntell 4\nend")
        self.assertEqual(answer(text, "put"), "1:2:3 2:2:3")

    def test_run(self):
        for ask, told in (
            ("run 1 2 0 0 0 0", "ended 3 3 2"), ("run 2 1 0 0 0 0", "ended 3 0"), ("run -5 -4 9 9 9 9", "ended -9 -9 -4"),
            ("run 1000000000000 -1000000000000 0 0 0 0", "ended 0 0"),
        ):
            self.assertEqual(answer(ROOMS, ask), told)
        self.assertEqual(answer("block\nend", "run 0 0 0 0 0 0"), "ended")
        self.assertEqual(answer("block\ntake 5\ntell 0\nend", "run 0 1 2 3 4 5"), "ended 5")

    def test_runs_by_two_thousand_steps(self):
        going = "block\ntake 0\ngo 1\nblock\ntell 0\ngo 1"
        # Two steps, and two for each round: 999 of them are told.
        self.assertEqual(answer(going, "run 7 0 0 0 0 0"), "going" + " 7" * 999)
        # One step more ahead of the rounds: the last one is come to, and its row isn't done.
        other = "block\ntake 0\ntake 1\ngo 1\nblock\ntell 0\ngo 1"
        self.assertEqual(answer(other, "run 7 0 0 0 0 0"), "going" + " 7" * 998)
        self.assertEqual(answer("block\ntake 0\ngo 1\nblock\ngo 1", "run 7 0 0 0 0 0"), "going")
        great = "block\ntake 0\ntell 0\ntimes 0 0\ntimes 2 2\ntell 2\nend"
        self.assertEqual(answer(great, "run 1000000000000 0 0 0 0 0"), f"great {10 ** 12}")
        self.assertEqual(answer(great, "run 3 0 0 0 0 0"), "ended 3 9")

    def test_several(self):
        asks = ["put", "numbers", "home 7", "numbers", "run 1 2 0 0 0 0", "alike 0 1", "put"]
        answers = desk(ROOMS, *asks)
        self.assertIs(type(answers), list)
        self.assertTrue(all(type(one) is str for one in answers))
        self.assertEqual(answers, [answer(ROOMS, ask) for ask in asks])

    def test_no_asks(self):
        for text in (ROOMS, "block\nend", ROOMS + "\n", "block\nend\n"):
            self.assertEqual(run_desk(text), [])

    def test_askers_own_and_by_turns(self):
        one, other = ROOMS + "\n\nnumbers\nput", program_text(samples.COUNTERS) + "\n\nnumbers\naway\nput"
        told, other_told = check_own(self, run_desk, one), check_own(self, run_desk, other)
        for k in range(2):
            self.assertEqual(run_desk(one), told)
            self.assertEqual(run_desk(other), other_told)


class ByTheParts(unittest.TestCase):
    """Each answer is what the parts of the package tell of the program without rooms."""

    def check(self, program):
        text, (made, bearers) = program_text(program), roomless(program)
        worths, numbers = oracle.with_worth(program), numbers_of(made)
        there, rows, puts = there_at(made), oracle.rows_in(made), put_ins(made)
        leasts = {row: min(o for o in worths if numbers[bearers[o]] == numbers[bearers[row]]) for row in worths}
        asks = ["numbers", "away", "put"]
        wanted = [
            " ".join(str(leasts.get(row, "-")) for row in range(len(bearers))) or "-",
            str(sum(there[row] is True and rows[row][0] in RECKONINGS for row in range(len(rows)))),
            " ".join(":".join(map(str, one)) for one in puts) or "-",
        ]
        for one, other in list(zip(worths, worths[2:]))[:6]:
            asks += [f"alike {one} {other}", f"differ {one} {other}", f"home {one}"]
            told = differing(made, bearers[one], bearers[other], 60)
            wanted += ["yes" if leasts[one] == leasts[other] else "no", " ".join(map(str, told))]
            wanted += [str(home_of(made, bearers[one]))]
            for block in range(len(program)):
                seen = seen_from(made, block)
                pair = [seen[bearers[row]] for row in (one, other)]
                asks.append(f"seen {block} {one} {other}")
                wanted.append("-" if None in pair else "yes" if pair[0] == pair[1] else "no")
        for takes in drawn.takes(903, 2):
            state, told, done = run(program, takes, 2000)
            asks.append("run " + " ".join(map(str, takes)))
            wanted.append(" ".join([state] + [str(worth) for worth in told]))
        self.assertEqual(desk(text, *asks), wanted, text)

    def test_samples_and_drawn_ones(self):
        for program in samples.SMALL + [program for program, numbers in samples.NUMBERED]:
            self.check(program)
        for program in drawn.programs(904, 40, rooms=True, times=1, tested=True):
            self.check(program)

    def test_reckonings_taken_away_and_put_in(self):
        some = 0
        for program in drawn.programs(905, 60, 6, 4, rooms=True, times=1):
            made = roomless(program)[0]
            told = desk(program_text(program), "away", "put")
            rows = [oracle.rows_in(made), oracle.rows_in(taken_away(made)[0])]
            left = [sum(row[0] in RECKONINGS for row in one) for one in rows]
            self.assertEqual(told[0], str(left[0] - left[1]))
            self.assertEqual(told[1], " ".join(":".join(map(str, one)) for one in slowputs.put_ins(made)) or "-")
            some += told[0] != "0" and told[1] != "-"
        self.assertGreater(some, 10)


class Refused(unittest.TestCase):
    FIRST = len(ROOMS.split("\n")) + 1

    def bad(self, text, row):
        with self.assertRaises(BadRow) as caught:
            run_desk(text)
        self.assertEqual(caught.exception.row, row, text)

    def bad_ask(self, ask, text=ROOMS, ahead=(), behind=()):
        first = len(text.split("\n")) + 1
        self.bad("\n".join([text, "", *ahead, ask, *behind]), first + len(ahead))

    def test_how_asks_are_written(self):
        rights = ["numbers", "alike 0 1", "differ 0 1", "home 0", "seen 0 0 1", "away", "put", "run 0 1 -2 3 4 5"]
        self.assertEqual(len(desk(ROOMS, *rights)), len(rights))
        for ask in rights:
            for other in (
                " " + ask, ask + " ", ask.replace(" ", "  ", 1) if " " in ask else ask + "  ", ask + " 0", ask.upper(),
                ask + "x", "x" + ask, ask + "\t", ask + " x", " ".join(ask.split(" ")[:-1]), ask + "\r", ask + "%",
            ):
                if other not in rights:
                    self.bad_ask(other)
                    self.bad_ask(other, ahead=rights)
                    self.bad_ask(other, behind=["x", ""])

    def test_words_that_are_no_asks(self):
        for ask in ("end", "block", "take 0", "ask", "number", "run", "go 1", "0", "-", "seen", "moved"):
            self.bad_ask(ask)

    def test_numbers(self):
        for word in ("00", "01", "+1", "-0", "x", "", "-", "1.0", "1000000000", "9" * 200, "\u0661"):
            for ask in (f"alike {word} 0", f"alike 0 {word}", f"differ {word} 0", f"home {word}", f"seen {word} 0 0",
                        f"seen 0 {word} 0", f"seen 0 0 {word}"):
                self.bad_ask(ask)
            if word != "1000000000":
                self.bad_ask(f"run {word} 0 0 0 0 0")
                self.bad_ask(f"run 0 0 0 0 0 {word}")
        for word in (10 ** 12 + 1, -10 ** 12 - 1, 10 ** 13):
            self.bad_ask(f"run 0 0 {word} 0 0 0")
        for ask in ("run 0 0 0 0 0", "run 0 0 0 0 0 0 0", "alike 0", "alike 0 1 2", "home", "home 0 1", "seen 0 0"):
            self.bad_ask(ask)
        for ask in ("alike -1 0", "home -1", "seen -1 0 0", "differ 0 -1"):
            self.bad_ask(ask)

    def test_rows_that_arent_there_or_have_no_worth(self):
        for row in (11, 12, 999999999, 3, 6, 9, 10):
            for ask in (f"alike {row} 0", f"alike 0 {row}", f"differ {row} 0", f"differ 0 {row}", f"home {row}",
                        f"seen 0 {row} 0", f"seen 0 0 {row}"):
                self.bad_ask(ask)
        for row in (0, 1, 2, 4, 5, 7, 8):
            self.assertEqual(answer(ROOMS, f"alike {row} {row}"), "yes")
        self.bad_ask("home 0", "block\nend")

    def test_blocks_that_arent_there(self):
        for block in (4, 5, 10, 999999999):
            self.bad_ask(f"seen {block} 0 1")
        self.assertEqual(answer(ROOMS, "seen 3 0 1"), "no")

    def test_empty_rows(self):
        self.bad_ask("")
        self.bad_ask("", ahead=["numbers"])
        self.bad_ask("", behind=["numbers"])
        self.bad(ROOMS + "\n\n", self.FIRST)
        self.bad(ROOMS + "\n\nnumbers\n", self.FIRST + 1)
        self.bad("block\nend\n\n", 3)

    def test_the_programs_rows_first(self):
        self.bad("", 0)
        self.bad("\n", 0)
        self.bad("\n\n", 0)
        self.bad("\nnumbers", 0)
        self.bad("block\n\nnumbers", 1)
        self.bad("block\ntake 6\nend\n\nnumbers\nx", 1)
        self.bad("block\ntake 0\n\nend\n\nnumbers", 2)
        self.bad("block\nend\nend\n\nx", 2)
        self.bad("block\nend \n\nx", 1)
        self.bad("block\nend\nnumbers", 2)
        self.bad(" \nblock\nend", 0)

    def test_then_no_program(self):
        for text in ("block\ntell 0\nend\n\nx", "block\ngo 1\n\n\n", "block\nsum 0 0\nend", "block\ngo 0\n"):
            with self.assertRaises(NoProgram):
                run_desk(text)

    def test_then_the_first_ask(self):
        self.bad(ROOMS + "\n\nnumbers\nhome 99\nx", self.FIRST + 1)
        self.bad(ROOMS + "\n\nx\nhome 99", self.FIRST)


if __name__ == "__main__":
    unittest.main()
