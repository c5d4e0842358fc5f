import unittest
from copy import deepcopy
from random import Random

from sameworth.away import taken_away
from sameworth.counts import reckoned
from sameworth.homes import there_at
from sameworth.putting import moved, put_ins
from sameworth.roomless import roomless
from sameworth.runs import run
from tests import drawn, oracle, samples, slowputs
from tests.bearing import Made
from tests.owning import check_own
from tests.slowputs import RECKONINGS, subsets, ways_on
from tests.slowthere import Walk
from tests.test_away import BROUGHT_ROUND, HELD_ROUND, THREE_WAYS
from tests.test_homes import AGAIN, TWO_WAYS

PLAIN = [program for program, numbers in samples.NUMBERED]
PLAIN += [TWO_WAYS, AGAIN, THREE_WAYS, HELD_ROUND, BROUGHT_ROUND]

# One of two ways has a sum that comes again behind.
HALF = [
    ([("take", 0), ("take", 1)], ("if", 0, 1, 2)),
    ([("sum", 0, 1)], ("go", 3)),
    ([], ("go", 3)),
    ([("sum", 1, 0), ("tell", 3)], ("end",)),
]
HALF_MADE = (
    [
        ([("take", 0), ("take", 1)], ("if", 0, 1, 2)),
        ([("sum", 0, 1)], ("go", 4)),
        ([], ("go", 3)),
        ([("sum", 0, 1)], ("go", 4)),
        ([("meet", (2, 3)), ("tell", 4)], ("end",)),
    ],
    [0, 1, 2, 4, 5],
)

# A round that does a sum each time.
EACH_TIME = [
    ([("take", 0), ("take", 1)], ("go", 1)),
    ([("meet", (0, 4)), ("sum", 0, 1), ("less", 2, 3)], ("if", 4, 1, 2)),  # 2 to 4
    ([("tell", 2)], ("end",)),
]
EACH_TIME_MADE = (
    [
        ([("take", 0), ("take", 1)], ("go", 1)),
        ([("sum", 0, 1)], ("go", 2)),
        ([("meet", (0, 4)), ("less", 3, 2)], ("if", 4, 2, 3)),
        ([("tell", 3)], ("end",)),
    ],
    [0, 1, 3, 2, 4, 5],
)

# A round that may not be gone through: the sum would be put in for nothing.
MAY_NOT = [
    ([("take", 0), ("take", 1)], ("go", 1)),
    ([("meet", (0, 4))], ("if", 2, 2, 3)),
    ([("sum", 0, 1), ("less", 2, 3)], ("go", 1)),
    ([("tell", 2)], ("end",)),
]
# The same, but the sum comes behind the round, too.
BEHIND_TOO = MAY_NOT[:3] + [([("tell", 2), ("sum", 1, 0), ("tell", 6)], ("end",))]

# Heads of heads; takes and nums that are only on the way on which the heads are.
HEADS_OF_HEADS = [
    ([("take", 0)], ("if", 0, 1, 2)),
    ([("take", 1), ("num", 7), ("sum", 0, 1), ("times", 3, 2), ("less", 4, 3), ("tell", 5)], ("go", 3)),  # 1 to 6
    ([], ("go", 3)),
    ([("take", 1), ("num", 7), ("sum", 7, 0), ("times", 9, 8), ("less", 10, 9), ("tell", 11)], ("end",)),  # 7 to 12
]
HEADS_OF_HEADS_MADE = (
    [
        ([("take", 0)], ("if", 0, 1, 2)),
        ([("take", 1), ("num", 7), ("sum", 0, 1), ("times", 3, 2), ("less", 4, 3), ("tell", 5)], ("go", 4)),
        ([], ("go", 3)),
        ([("take", 1), ("sum", 0, 7), ("num", 7), ("times", 8, 9), ("less", 10, 8)], ("go", 4)),  # 7 to 11
        ([("meet", (3, 8)), ("meet", (4, 10)), ("meet", (5, 11)), ("take", 1), ("num", 7), ("tell", 14)], ("end",)),
    ],
    [0, 1, 2, 3, 4, 5, 6, 15, 16, 12, 13, 14, 17],
)

# A home further in: the meet's block. It's put in behind that, not ahead.
FURTHER_IN = [
    ([("take", 0), ("num", 1)], ("go", 1)),
    ([("meet", (0, 5))], ("if", 2, 2, 3)),  # 2
    ([("sum", 2, 1), ("tell", 3)], ("go", 4)),  # 3, 4
    ([], ("go", 4)),
    ([("sum", 1, 2), ("less", 5, 1)], ("if", 6, 1, 5)),  # 5, 6
    ([("tell", 5)], ("end",)),  # 7
]
# A row that is named has a home further in than the head's: the head can't be made on the lead.
NAMED_FURTHER_IN = [
    ([("take", 0), ("take", 1), ("num", 0)], ("if", 1, 1, 2)),
    ([], ("go", 3)),
    ([], ("go", 3)),
    ([("meet", (0, 1)), ("less", 0, 3), ("sum", 1, 3)], ("if", 0, 4, 5)),  # 3 to 5
    ([("sum", 4, 5), ("tell", 6)], ("go", 6)),  # 6 is x and y together
    ([], ("go", 6)),
    ([("sum", 0, 1), ("tell", 8)], ("end",)),  # 8
]
# What a head names is there on one of two ways to the lead only.
NOT_THERE = [
    ([("take", 0), ("take", 1)], ("if", 0, 1, 2)),
    ([("sum", 0, 1), ("times", 2, 0)], ("go", 3)),  # 2, 3
    ([], ("go", 3)),
    ([("times", 0, 0), ("times", 0, 1), ("sum", 4, 5), ("tell", 6)], ("end",)),
]
# Nothing is reckoned ahead of where the ways meet: to put it in on both would be for nothing.
NEVER_HELD = [([("take", 0), ("take", 1)], ("if", 0, 1, 2)), ([], ("go", 3)), ([], ("go", 3)), ([("sum", 0, 1)], ("end",))]
# It's there on all ways: the joints hold it without any being put in.
HELD_ON = [
    ([("take", 0), ("take", 1)], ("if", 0, 1, 2)),
    ([("sum", 0, 1)], ("go", 3)),
    ([("sum", 0, 1)], ("go", 3)),
    ([("take", 2)], ("if", 4, 4, 5)),
    ([], ("go", 6)),
    ([], ("go", 6)),
    ([("sum", 0, 1), ("tell", 5)], ("end",)),
]
# The first row alike on the way on is a num.
NUM_FIRST = [
    ([("take", 0)], ("if", 0, 1, 2)),
    ([("less", 0, 0)], ("go", 3)),
    ([], ("go", 3)),
    ([("num", 0), ("less", 0, 0), ("tell", 3)], ("end",)),
]
# On the way on the sum is done each time, but its home may be come to ahead of it.
HOME_AHEAD = [
    ([("take", 0), ("num", 1)], ("go", 1)),
    ([("meet", (0, 4))], ("if", 0, 2, 3)),  # 2
    ([("sum", 2, 1)], ("go", 4)),  # 3
    ([], ("go", 4)),
    ([("less", 2, 1)], ("if", 4, 5, 6)),  # 4
    ([], ("go", 1)),
    ([("sum", 2, 1), ("tell", 5)], ("end",)),  # 5, 6
]
# A joint at which it's wanted, but can't be made on a lead, comes ahead of what it would be put in for.
JOINT_AHEAD = [
    ([("take", 0), ("take", 1)], ("if", 0, 1, 2)),
    ([("sum", 0, 1)], ("if", 1, 3, 4)),  # 2
    ([], ("go", 6)),
    ([("times", 2, 0)], ("go", 5)),  # 3
    ([], ("go", 5)),
    ([], ("go", 6)),
    ([("times", 0, 0), ("times", 0, 1), ("sum", 4, 5), ("tell", 6)], ("end",)),  # 6 is as 3
]
# A take that is there on the lead isn't copied; one that isn't comes in once, though it's named twice.
TWICE = [
    ([("take", 0)], ("if", 0, 1, 2)),
    ([("take", 1), ("times", 1, 1)], ("go", 4)),  # 1, 2
    ([("take", 1)], ("if", 3, 3, 5)),  # 3
    ([], ("go", 4)),
    ([("take", 1), ("times", 4, 4), ("tell", 5)], ("end",)),  # 4 to 6
    ([], ("go", 6)),
    ([("take", 2)], ("end",)),
]
TWICE_MADE = (
    [
        ([("take", 0)], ("if", 0, 1, 2)),
        ([("take", 1), ("times", 1, 1)], ("go", 5)),
        ([("take", 1)], ("if", 3, 3, 6)),
        ([], ("go", 4)),
        ([("times", 3, 3)], ("go", 5)),
        ([("meet", (2, 4)), ("take", 1), ("tell", 5)], ("end",)),
        ([], ("go", 7)),
        ([("take", 2)], ("end",)),
    ],
    [0, 1, 2, 3, 6, 5, 7, 8],
)
SQUARE = [
    ([("take", 0)], ("if", 0, 1, 2)),
    ([("take", 1), ("times", 1, 1)], ("go", 3)),  # 1, 2
    ([], ("go", 3)),
    ([("take", 1), ("times", 3, 3), ("tell", 4)], ("end",)),  # 3 to 5
]
SQUARE_MADE = (
    [
        ([("take", 0)], ("if", 0, 1, 2)),
        ([("take", 1), ("times", 1, 1)], ("go", 4)),
        ([], ("go", 3)),
        ([("take", 1), ("times", 3, 3)], ("go", 4)),
        ([("meet", (2, 4)), ("take", 1), ("tell", 5)], ("end",)),
    ],
    [0, 1, 2, 6, 5, 7],
)
# A way on that never comes to an end asks for nothing.
NO_END = [
    ([("take", 0), ("take", 1)], ("if", 0, 1, 2)),
    ([("sum", 0, 1)], ("go", 3)),
    ([], ("go", 3)),
    ([], ("if", 1, 4, 5)),
    ([("sum", 1, 0), ("tell", 3)], ("end",)),
    ([], ("go", 5)),
]

PUT_INS = [
    (HALF, [(2, 2, 3)]), (EACH_TIME, [(3, 0, 1)]), (MAY_NOT, []), (BEHIND_TOO, [(3, 0, 1)]),
    (HEADS_OF_HEADS, [(3, 2, 3), (4, 2, 3), (5, 2, 3)]), (FURTHER_IN, [(3, 3, 4)]), (NAMED_FURTHER_IN, []),
    (NOT_THERE, []), (NEVER_HELD, []), (HELD_ON, []), (NUM_FIRST, []), (NO_END, [(2, 2, 3)]), (samples.BARE, []),
    (THREE_WAYS, []), (HELD_ROUND, []), (BROUGHT_ROUND, []), (HOME_AHEAD, []), (JOINT_AHEAD, []),
    (TWICE, [(2, 3, 4)]), (SQUARE, [(2, 2, 3)]),
]
MADE = [(HALF, HALF_MADE), (EACH_TIME, EACH_TIME_MADE), (HEADS_OF_HEADS, HEADS_OF_HEADS_MADE)]
MADE += [(TWICE, TWICE_MADE), (SQUARE, SQUARE_MADE)]
ALL = PLAIN + [program for program, puts in PUT_INS]


def drawn_ones():
    ones = list(drawn.programs(801, 500, 6, 4, times=1)) + list(drawn.programs(802, 300, 7, 4, times=1, tested=True))
    return ones + list(drawn.programs(803, 10, 14, 5, times=0))


def gone_from(program, made):
    """The reckonings whose worth is there at them on all ways, by what is put in, and by what came with it."""
    put = {}
    for n, lead, block in slowputs.put_ins(program):
        put.setdefault((lead, block), []).append(n)
    walk, rows = Walk(program, put), oracle.rows_in(program)
    # A num that came in on a lead is a row alike with others, too.
    for (lead, block), new in Made(None, program, made, [], put).new.items():
        nums = [row for row in made[0][new][0] if row[0] in ("take", "num")]
        put[lead, block] += [rows.index(row) for row in nums]
    return [r for r in oracle.with_worth(program) if rows[r][0] in RECKONINGS and walk.there_at(r)], put


class PutIns(unittest.TestCase):
    def test_samples(self):
        for program, puts in PUT_INS:
            with self.subTest(program=program):
                self.assertTrue(oracle.is_program(program))
                self.assertEqual(slowputs.put_ins(program), puts)
                self.assertEqual(put_ins(program), puts)

    def test_by_the_words(self):
        some = several = 0
        for program in ALL + drawn_ones() + list(drawn.programs(804, 700, 6, 4, times=1)):
            if len(program) > 8:
                continue
            told = put_ins(program)
            self.assertEqual(told, slowputs.put_ins(program), program)
            self.assertIs(type(told), list)
            self.assertTrue(all(type(one) is tuple for one in told))
            some += len(told) > 0
            several += len({n for n, lead, block in told}) > 1
        self.assertGreater(some, 300)
        self.assertGreater(several, 150)

    def test_in_another_order(self):
        # The same leads, however blocks are ordered; the head may be another one of the rows alike.
        rng = Random(805)
        for program in ALL + list(drawn.programs(806, 200, 7, times=1)):
            other, places = drawn.reordered(rng, program)
            new = self.new_blocks(program, other, places)
            if new is None:
                continue
            walk, moved_walk = Walk(program), Walk(other)
            told = {(min(places[r] for r in walk.alike(n)), new[a], new[b]) for n, a, b in put_ins(program)}
            other_told = {(min(moved_walk.alike(n)), a, b) for n, a, b in put_ins(other)}
            if not self.is_mixed(program, walk) and len({n for n, a, b in told | other_told}) < 2:
                self.assertEqual(told, other_told, (program, other))

    def is_mixed(self, program, walk):
        """Whether rows of one worth are of several kinds: then which one is the head matters."""
        rows = oracle.rows_in(program)
        return any(
            len({(rows[r][0], tuple(walk.made[x] for x in drawn.names_of(rows[r]))) for r in walk.alike(n)}) > 1
            for n in oracle.with_worth(program)
        )

    def new_blocks(self, program, other, places):
        """For each block its number in the other order; None where a block without rows can't be told."""
        owners, new_owners = oracle.owners_in(program), oracle.owners_in(other)
        new = {owners[row]: new_owners[place] for row, place in enumerate(places)}
        return new if len(new) == len(program) else None

    def test_askers_own(self):
        for program in ALL:
            check_own(self, put_ins, deepcopy(program))
            made, bearers = check_own(self, moved, deepcopy(program))
            self.assertEqual([type(block) for block in made], [tuple] * len(made))
            self.assertEqual([(type(rows), type(end)) for rows, end in made], [(list, tuple)] * len(made))
        self.assertIs(type(moved(HALF)), tuple)


class MetSets(unittest.TestCase):
    """On no way to an end does another met set reckon a head less often."""

    def there(self, head, chosen):
        put = {lead: list(rows) for lead, rows in head.walk.put.items()}
        for lead in chosen:
            put.setdefault(lead, []).append(head.n)
        walk = Walk(head.program, put)
        return {row: walk.there_at(row) for row in head.alike}

    def is_met_on(self, head, chosen, there, way):
        for at, block in enumerate(way):
            if block == head.home or at and (way[at - 1], block) in chosen:
                return False
            first = head.first_in(block)
            if first is not None:
                return head.rows[first][0] in RECKONINGS and there[first]
        return False

    def times(self, head, chosen, there, way):
        put = sum(lead in chosen for lead in zip(way, way[1:]))
        left = [row for row in head.alike if head.rows[row][0] in RECKONINGS and not there[row]]
        return put + sum(way.count(head.walk.owners[row]) for row in left)

    def check_head(self, head):
        leads = [(a, b) for b in head.behind_home if b != head.home for a in head.leads[b] if head.can_make(a, b)]
        if len(leads) > 6:
            return 0
        on = {block: ways_on(head.program, block) for lead, block in leads}
        ways, found = ways_on(head.program, 0), {}
        for chosen in subsets(leads):
            there = self.there(head, chosen)
            if all(self.is_met_on(head, chosen, there, way) for lead, block in chosen for way in on[block]):
                found[frozenset(chosen)] = [self.times(head, chosen, there, way) for way in ways]
        own = frozenset((a, b) for n, a, b in put_ins(head.program) if n == head.n)
        self.assertIn(own, found, (head.program, head.n))
        for chosen, times in found.items():
            self.assertTrue(all(one <= other for one, other in zip(found[own], times)), (head.program, head.n, chosen))
        return len(found) > 1

    def test_samples_and_drawn_ones(self):
        several = 0
        chosen = [program for program in ALL if len(program) < 7]
        for program in chosen + list(drawn.programs(807, 250, 5, 3, times=1, tested=True)):
            for head in slowputs.heads(program):
                several += self.check_head(head)
        self.assertGreater(several, 100)


class Moved(unittest.TestCase):
    def test_samples(self):
        for program, told in MADE:
            with self.subTest(program=program):
                self.assertEqual(moved(program), told)

    def test_nothing_put_in(self):
        for program in ALL + drawn_ones():
            if not put_ins(program):
                self.assertEqual(moved(program), taken_away(program))

    def test_what_is_made(self):
        for program in ALL + drawn_ones():
            if len(program) < 9:
                told = moved(program)
                gone, put = gone_from(program, told)
                made = Made(self, program, told, gone, put)
                made.check()
                for lead, new in made.new.items():
                    self.check_new(made, lead, [r for r in put[lead] if made.rows[r][0] in RECKONINGS], told[0][new])

    def check_new(self, made, lead, heads, block):
        """A new block has the heads put in there, rising, each of its own kind, and takes and nums that they name."""
        rows, end = block
        self.assertEqual(end, ("go", made.blocks[lead[1]]))
        self.assertEqual([row[0] for row in rows if row[0] in RECKONINGS], [made.rows[n][0] for n in heads])
        self.assertTrue(all(row[0] in RECKONINGS + ("take", "num") for row in rows))
        named = [made.rows[name] for n in heads for name in drawn.names_of(made.rows[n])]
        for row in rows:
            if row[0] in ("take", "num"):
                self.assertIn(row, named)

    def test_new_rows_are_alike_with_their_heads(self):
        for program in ALL + drawn_ones():
            if len(program) > 8:
                continue
            told = moved(program)
            made, put = Walk(told[0]), {}
            for n, lead, block in put_ins(program):
                put.setdefault((lead, block), []).append(n)
            new = Made(self, program, told, [], put).new
            for lead, heads in put.items():
                rows = [r for r, owner in enumerate(made.owners) if owner == new[lead]]
                rows = [r for r in rows if oracle.rows_in(told[0])[r][0] in RECKONINGS]
                for row, n in zip(rows, heads, strict=True):
                    self.assertEqual(made.made[row], made.made[told[1][n]])

    def test_along_runs(self):
        ended = less = 0
        for program in ALL + drawn_ones():
            if len(program) > 8:
                continue
            told, away = moved(program), taken_away(program)[0]
            made = Made(self, program, told, *gone_from(program, told))
            for takes in drawn.takes(808, 4):
                if made.check_run(takes):
                    ended += 1
                    times = reckoned(told[0], run(told[0], takes, 22000)[2])
                    others = reckoned(away, run(away, takes, 22000)[2])
                    self.assertLessEqual(times, others, (program, takes))
                    less += times < others
        self.assertGreater(ended, 1000)
        self.assertGreater(less, 30)

    def test_tells_each_once(self):
        for program in ALL + drawn_ones():
            made, bearers = moved(program)
            tells = [row for row, what in enumerate(oracle.rows_in(made)) if what[0] == "tell"]
            wanted = [bearers[row] for row, what in enumerate(oracle.rows_in(program)) if what[0] == "tell"]
            self.assertEqual(tells, wanted)

    def test_nothing_is_left_to_take_away(self):
        for program in ALL + drawn_ones():
            made, bearers = moved(program)
            rows = oracle.rows_in(made)
            self.assertEqual([r for r, there in enumerate(there_at(made)) if there and rows[r][0] in RECKONINGS], [])

    def check_same(self, program, made, takes):
        state, told, done = run(program, takes, 150)
        if state == "ended":
            made_state, made_told, made_done = run(made, takes, 22000)
            self.assertEqual((made_state, made_told), ("ended", told), (program, made, takes))
            self.assertLessEqual(reckoned(made, made_done), reckoned(program, done))

    def test_one_of_what_the_other_makes(self):
        for program in ALL + drawn_ones()[::3]:
            away, put = taken_away(program)[0], moved(program)[0]
            both = [moved(away)[0], taken_away(put)[0], moved(put)[0], taken_away(moved(away)[0])[0]]
            for made in both:
                self.assertTrue(oracle.is_program(made))
                for takes in drawn.takes(809, 2):
                    self.check_same(program, made, takes)
            for takes in drawn.takes(809, 2):
                self.check_same(away, both[0], takes)
                self.check_same(put, both[1], takes)

    def test_of_programs_made_without_rooms(self):
        for program in drawn.programs(810, 60, 6, 4, rooms=True, times=1):
            made = roomless(program)[0]
            other, bearers = moved(made)
            self.assertTrue(oracle.is_program(other))
            for takes in drawn.takes(811, 2):
                self.check_same(made, other, takes)


if __name__ == "__main__":
    unittest.main()
