"""What point 1 promises over the whole program, and point 2 of programs asked by turns."""

import unittest
from copy import deepcopy
from random import Random

from sameworth.away import taken_away
from sameworth.blocks import above, leads_of, rows_of
from sameworth.counts import reckoned
from sameworth.desk import run_desk
from sameworth.differing import differing, shows_differing
from sameworth.errors import WorthError
from sameworth.homes import home_of, there_at, there_behind
from sameworth.numbering import numbers_of
from sameworth.papercheck import leasts_by, shows_paper
from sameworth.papers import paper_of
from sameworth.programs import is_plain, is_program
from sameworth.putting import moved, put_ins
from sameworth.readings import shows_reading
from sameworth.roomless import numbers_with_rooms, roomless
from sameworth.runs import run
from sameworth.seen import facts_at, seen_from
from sameworth.texts import program_text, read_program
from tests import drawn, oracle, samples
from tests.owning import spoil

WITH_ROOMS = [samples.ALL_ROWS, samples.ROOMS] + list(drawn.programs(1001, 120, 6, 5, rooms=True, times=1, tested=True))
PLAIN = [program for program, numbers in samples.NUMBERED]

# Each question that is asked of a program alone, or of it and its first row or block.
ASKED = [
    leads_of, above, rows_of, is_program, is_plain, numbers_of, paper_of, roomless, numbers_with_rooms, there_at,
    taken_away, put_ins, moved, program_text,
]
ASKED_AT = [facts_at, seen_from]


class FromEndToEnd(unittest.TestCase):
    def test_tells_the_same_and_reckons_no_more(self):
        ended = less = 0
        for program in WITH_ROOMS:
            plain = roomless(program)[0]
            away, put = taken_away(plain)[0], moved(plain)[0]
            for takes in drawn.takes(1002, 4):
                state, told, done = run(program, takes, 150)
                if state != "ended":
                    continue
                many = []
                for made in (plain, away, put):
                    made_state, made_told, made_done = run(made, takes, 22000)
                    self.assertEqual((made_state, made_told), ("ended", told), (program, takes))
                    many.append(reckoned(made, made_done))
                self.assertGreaterEqual(many[0], many[1])
                self.assertGreaterEqual(many[1], many[2])
                ended += 1
                less += many[0] > many[2]
        self.assertGreater(ended, 200)
        self.assertGreater(less, 100)

    def test_bearers_of_bearers(self):
        # Through all that is made, rows are alike just where their bearers are.
        for program in WITH_ROOMS:
            plain, bearers = roomless(program)
            put, further = moved(plain)
            away, last = taken_away(put)
            numbers, made_numbers = numbers_with_rooms(program), numbers_of(away)
            pairs = {
                (numbers[row], made_numbers[last[further[bearers[row]]]]) for row in oracle.with_worth(program)
            }
            self.assertEqual(len({one for one, other in pairs}), len(pairs))
            self.assertEqual(len({other for one, other in pairs}), len(pairs))

    def test_papers_and_readings(self):
        for program in WITH_ROOMS:
            for made in (roomless(program)[0], moved(roomless(program)[0])[0]):
                numbers, paper = numbers_of(made), paper_of(made)
                self.assertIs(shows_paper(made, paper), True)
                self.assertEqual(leasts_by(made, paper), numbers)
                self.assertIs(shows_reading(made, numbers), True)

    def test_rows_that_differ_arent_alike(self):
        for program in WITH_ROOMS[:60]:
            made = roomless(program)[0]
            numbers, worths = numbers_of(made), oracle.with_worth(made)
            for one, other in list(zip(worths, worths[1:]))[:8]:
                told = differing(made, one, other, 5)
                self.assertIs(shows_differing(made, one, other, told), True)
                if numbers[one] == numbers[other]:
                    self.assertEqual(told, ("open",))

    def test_texts_of_what_is_made(self):
        for program in WITH_ROOMS + PLAIN:
            made = moved(roomless(program)[0])[0]
            self.assertEqual(read_program(program_text(made)), made)

    def test_in_another_order_of_blocks(self):
        rng = Random(1003)
        for program in WITH_ROOMS:
            other, places = drawn.reordered(rng, program, False)
            self.assertTrue(oracle.is_program(other))
            numbers, other_numbers = numbers_with_rooms(program), numbers_with_rooms(other)
            for one in oracle.with_worth(program):
                for two in oracle.with_worth(program):
                    alike = other_numbers[places[one]] == other_numbers[places[two]]
                    self.assertEqual(numbers[one] == numbers[two], alike, (program, other))


class ByTurns(unittest.TestCase):
    def asked(self, program):
        told = [ask(program) for ask in ASKED if ask in (roomless, numbers_with_rooms, leads_of, above, program_text)]
        if is_plain(program):
            told += [ask(program) for ask in ASKED]
            told += [ask(program, block) for ask in ASKED_AT for block in range(len(program))]
            for row in oracle.with_worth(program)[:3]:
                told += [home_of(program, row), there_behind(program, row), differing(program, 0, row, 2)]
        told.append(run_desk(program_text(program) + "\n\nnumbers\naway\nput\nrun 1 2 3 4 5 6"))
        return told

    def test_two_programs(self):
        chosen = [deepcopy(program) for program in PLAIN + WITH_ROOMS[:15]]
        first = [deepcopy(self.asked(program)) for program in chosen]
        for at in range(len(chosen)):
            other = (at + 1) % len(chosen)
            told = self.asked(chosen[at])
            self.assertEqual(self.asked(chosen[other]), first[other])
            self.assertEqual(told, first[at])
            spoil(told)
            self.assertEqual(self.asked(chosen[at]), first[at])
        self.assertEqual(chosen, PLAIN + WITH_ROOMS[:15])

    def test_a_refusal_leaves_nothing_behind(self):
        text = program_text(samples.CHOICE)
        wanted = run_desk(text + "\n\nnumbers\nput")
        for bad in (text + "\n\nx", text + "\nx", "block\ngo 1\n\nnumbers", ""):
            with self.assertRaises(WorthError):
                run_desk(bad)
            self.assertEqual(run_desk(text + "\n\nnumbers\nput"), wanted)
            self.assertEqual(read_program(text), samples.CHOICE)


if __name__ == "__main__":
    unittest.main()
