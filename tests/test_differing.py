import unittest
from copy import deepcopy

from sameworth.differing import differing, shows_differing, takes_by
from sameworth.numbering import numbers_of
from tests import drawn, oracle, samples, slowforms, slowruns
from tests.owning import check_own
from tests.things import JUNK, variants

PLAIN = [program for program, numbers in samples.NUMBERED]

# A counter, and a row alike with it that is done in the round behind: in the next round it's fresh no more.
COUNTING = [
    ([("take", 0), ("num", 0), ("num", 1), ("num", -6)], ("go", 1)),
    ([("meet", (1, 7)), ("below", 4, 2)], ("if", 5, 2, 3)),
    ([("sum", 4, 1), ("sum", 4, 2)], ("go", 1)),
    ([("tell", 4), ("sum", 4, 0)], ("end",)),
]


def slow_differing(program, one, other, k):
    """Point 14's words: each number of rows done behind which both rows are fresh, with unlike last worths."""
    made, owners = slowforms.parted(program), oracle.owners_in(program)
    drops = {row: {owners[m] for kind, m in slowforms.leaves_in(made[row]) if kind == 1} for row in (one, other)}
    takes = [(k * (i + 3) + (k // 7) * (5 * i + 1) + i ** 2) % 13 - 6 for i in range(6)]
    found, last, done = [], {}, 0
    for event in slowruns.events(program, takes, 300)[:300]:
        if event[0] == "come":
            for row in drops:
                if event[1] in drops[row]:
                    last.pop(row, None)
        elif event[0] == "do":
            last[event[1]] = event[2]
            done += 1
            if one in last and other in last and last[one] != last[other]:
                found.append(done)
    return found


class TakesBy(unittest.TestCase):
    def test_told(self):
        for k, takes in (
            (0, [-6, -5, -2, 3, -3, 6]), (1, [-3, -1, 3, -4, 4, 1]), (7, [3, 3, 5, -4, 2, -3]),
        ):
            self.assertEqual(takes_by(k), takes)

    def test_by_the_words(self):
        for k in list(range(200)) + [10 ** 6, 10 ** 20]:
            told = takes_by(k)
            self.assertIs(type(told), list)
            self.assertEqual(len(told), 6)
            for i in range(6):
                self.assertIn(told[i], range(-6, 7))
                self.assertEqual((told[i] + 6 - k * (i + 3) - (k // 7) * (5 * i + 1) - i * i) % 13, 0)

    def test_askers_own(self):
        check_own(self, takes_by, 3)


class Differing(unittest.TestCase):
    def one_block(self, *rows):
        return [(list(rows), ("end",))]

    def test_the_first_run(self):
        program = self.one_block(("take", 0), ("take", 1), ("num", -6))
        self.assertEqual(differing(program, 0, 1, 60), ("run", 0, 2))
        self.assertEqual(differing(program, 1, 0, 60), ("run", 0, 2))
        self.assertEqual(differing(program, 1, 2, 60), ("run", 0, 3))
        # In the first run -6 is taken; in the second one -3.
        self.assertEqual(differing(program, 0, 2, 60), ("run", 1, 3))
        self.assertEqual(differing(program, 2, 0, 2), ("run", 1, 3))

    def test_tries(self):
        program = self.one_block(("take", 0), ("num", -6), ("take", 1))
        self.assertEqual(differing(program, 0, 1, 0), ("open",))
        self.assertEqual(differing(program, 0, 1, 1), ("open",))
        self.assertEqual(differing(program, 0, 2, 0), ("open",))
        self.assertEqual(differing(program, 0, 2, 1), ("run", 0, 3))

    def test_alike_rows(self):
        program = self.one_block(("take", 0), ("num", 0), ("sum", 0, 1), ("take", 0))
        for one, other in ((0, 2), (2, 3), (0, 0), (1, 1)):
            self.assertEqual(differing(program, one, other, 60), ("open",))

    def test_rows_that_dont_differ_by_these_tries(self):
        # No try hands in more than 6, so both tests are 0; and no way does both rows.
        program = self.one_block(("take", 0), ("num", 50), ("below", 1, 0), ("same", 1, 0))
        self.assertEqual(differing(program, 2, 3, 60), ("open",))
        other = [([("take", 0)], ("if", 0, 1, 2)), ([("num", 1)], ("end",)), ([("num", 2)], ("end",))]
        self.assertEqual(differing(other, 1, 2, 60), ("open",))
        self.assertEqual(differing(other, 0, 1, 60), ("run", 0, 2))

    def test_rounds(self):
        # Round by round: 4 is 0, 1; 6 is alike with 4, 7 one more.
        self.assertEqual(numbers_of(COUNTING)[4:8], [4, 5, 4, 7])
        self.assertEqual(differing(COUNTING, 4, 6, 60), ("open",))
        self.assertEqual(differing(COUNTING, 4, 7, 60), ("run", 0, 8))
        self.assertEqual(differing(COUNTING, 6, 7, 60), ("run", 0, 8))
        # The nought and the counter are one in the first round, the counter's one in the second.
        self.assertEqual(differing(COUNTING, 1, 4, 60), ("run", 0, 9))
        self.assertEqual(differing(COUNTING, 2, 4, 60), ("run", 0, 5))
        self.assertEqual(differing(COUNTING, 9, 0, 60), ("run", 0, 12))

    def test_what_is_fresh_no_more_isnt_compared(self):
        # 6 is 0 in its one round, the counter 1 in the next one, where 6 isn't done; 9 is done behind.
        self.assertEqual(differing(COUNTING, 6, 9, 60), ("open",))
        # 5 is 1, then 0; 6 is 0 while 5 is 1, and fresh no more when 5 is 0.
        self.assertEqual(differing(COUNTING, 5, 6, 60), ("run", 0, 7))

    def test_runs_that_dont_end(self):
        going = [([("take", 0), ("take", 0), ("num", 1)], ("go", 1)), ([("meet", (0, 4)), ("sum", 3, 2)], ("go", 1))]
        self.assertEqual(differing(going, 0, 1, 60), ("open",))
        self.assertEqual(differing(going, 3, 4, 60), ("run", 0, 5))
        self.assertEqual(differing(going, 0, 3, 60), ("run", 0, 6))
        # A round is five steps: in 300 of them the counter never comes to 90.
        late = [([("take", 0), ("num", 90), ("num", 1)], ("go", 1)),
                ([("meet", (0, 4)), ("sum", 3, 2), ("below", 3, 1), ("same", 3, 3)], ("go", 1))]
        self.assertEqual(differing(late, 5, 6, 60), ("open",))
        great = [([("take", 0), ("take", 0), ("num", 10 ** 12)], ("go", 1)),
                 ([("meet", (2, 4)), ("times", 3, 3), ("take", 1)], ("go", 1))]
        self.assertEqual(differing(great, 3, 4, 60), ("run", 0, 5))
        self.assertEqual(differing(great, 4, 5, 60), ("run", 0, 6))

    def test_the_last_steps(self):
        # The block is come to with the 299th step, so its first row is done and its second isn't.
        def program(more):
            rows = [("take", 0)] * (297 - more) + [("num", 0)] * more
            return [(rows, ("go", 1)), ([("num", 1), ("num", 2)], ("end",))]
        self.assertEqual(differing(program(0), 0, 297, 3), ("run", 0, 298))
        self.assertEqual(differing(program(0), 0, 298, 60), ("open",))
        self.assertEqual(differing(program(0), 297, 298, 60), ("open",))

    def test_by_the_words(self):
        found = {"run": 0, "later": 0, "open": 0}
        for program in PLAIN + list(drawn.programs(501, 60, 6, 3)):
            worths = oracle.with_worth(program)
            for one, other in [(a, b) for a in worths[::2] for b in worths[1::2]][:8]:
                slow = [slow_differing(program, one, other, k) for k in range(8)]
                runs = [("run", k, many[0]) for k, many in enumerate(slow) if many]
                told = differing(program, one, other, 8)
                self.assertEqual(told, runs[0] if runs else ("open",), (program, one, other))
                self.assertIs(type(told), tuple)
                found[told[0]] += 1
                found["later"] += told[0] == "run" and told[1] > 0
        self.assertGreater(min(found.values()), 20)

    def test_of_alike_rows_always_open(self):
        for program in PLAIN + list(drawn.programs(502, 150, 6, 3)):
            numbers = numbers_of(program)
            for row in oracle.with_worth(program):
                if numbers[row] < row:
                    self.assertEqual(differing(program, numbers[row], row, 6), ("open",))

    def test_askers_own(self):
        for program in PLAIN + [COUNTING]:
            for one, other in zip(oracle.with_worth(program), oracle.with_worth(program)[1:]):
                told = check_own(self, differing, deepcopy(program), one, other, 3)
                check_own(self, shows_differing, deepcopy(program), one, other, told)


class Shows(unittest.TestCase):
    def test_what_differing_tells(self):
        for program in PLAIN + list(drawn.programs(503, 80, 6, 3)):
            worths = oracle.with_worth(program)
            for one, other in [(a, b) for a in worths[::2] for b in worths[1::2]][:10]:
                self.assertIs(shows_differing(program, one, other, differing(program, one, other, 5)), True)
                self.assertIs(shows_differing(program, one, other, ("open",)), True)

    def test_other_places(self):
        program = COUNTING
        for told in (("run", 0, 8), ("run", 5, 8), ("run", 59, 8)):
            self.assertIs(shows_differing(program, 4, 7, told), True)
        # Behind 8 rows 7 is done; then its home is come to again, and the run ends behind 12 rows.
        for told in (("run", 0, 7), ("run", 0, 9), ("run", 0, 12), ("run", 0, 13), ("run", 0, 0), ("run", 0, -4)):
            self.assertIs(shows_differing(program, 4, 7, told), False)
        for many in (9, 10, 11, 12):
            self.assertIs(shows_differing(program, 1, 4, ("run", 0, many)), True)
        for told in (("run", 60, 9), ("run", 61, 9), ("run", -1, 9), ("run", 10 ** 30, 9), ("run", 0, 13)):
            self.assertIs(shows_differing(program, 1, 4, told), False)

    def test_alike_rows(self):
        for many in range(15):
            self.assertIs(shows_differing(COUNTING, 4, 6, ("run", 0, many)), False)
            self.assertIs(shows_differing(COUNTING, 4, 4, ("run", 0, many)), False)

    def test_truths_are_no_numbers(self):
        program = [([("take", 0), ("take", 1)], ("end",))]
        self.assertIs(shows_differing(program, 0, 1, ("run", 0, 2)), True)
        self.assertIs(shows_differing(program, 0, 1, ("run", 1, 2)), True)
        for told in (("run", False, 2), ("run", True, 2), ("run", 0, True), ("run", 0, False)):
            self.assertIs(shows_differing(program, 0, 1, told), False)
        late = [([("num", 1)], ("end",))]
        self.assertIs(shows_differing(late, 0, 0, ("run", True, True)), False)
        first = [([("num", 1), ("num", 2), ("sum", 0, 1)], ("end",))]
        self.assertIs(shows_differing(first, 0, 1, ("run", False, 2)), False)

    def test_anything(self):
        program = [([("take", 0), ("take", 1), ("num", 1)], ("end",))]
        for thing in JUNK:
            self.assertIs(shows_differing(program, 0, 1, thing), False, thing)
        rights = {("open",), ("run", 0, 2), ("run", 0, 3), ("run", 1, 2), ("run", 2, 2), ("run", 3, 2), ("run", 5, 2)}
        for told in (("run", 0, 2), ("open",)):
            for thing in variants(told, JUNK + ["run", "open", ("open",)]):
                wanted = any(thing == right and list(map(type, thing)) == list(map(type, right)) for right in rights)
                wanted = wanted and type(thing) is tuple
                self.assertIs(shows_differing(program, 0, 1, thing), wanted, thing)

    def test_by_the_words(self):
        for program in PLAIN + list(drawn.programs(504, 25, 6, 3)):
            worths = oracle.with_worth(program)
            for one, other in [(a, b) for a in worths[::2] for b in worths[1::2]][:5]:
                for k in (0, 59):
                    slow = slow_differing(program, one, other, k)
                    for many in range(25):
                        told = shows_differing(program, one, other, ("run", k, many))
                        self.assertIs(told, many in slow, (program, one, other, k, many))


if __name__ == "__main__":
    unittest.main()
