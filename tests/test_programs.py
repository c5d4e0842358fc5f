import unittest
from copy import deepcopy

from sameworth.programs import is_plain, is_program
from tests import oracle, samples
from tests.things import numbers_otherwise, variants

JUNK = [
    None, True, False, "", "x", "end", "0", 0, 1, 2, 3, 5, 6, -1, 99, 10 ** 30, -(10 ** 30),
    [], (), {}, [0], (0,), (0, 0), (0, 1), {0: 1}, {"rows": []}, ("end",), ["end"], ("go", 1), ("take", 0),
    ("num", 0), ("tell", 0), ("meet", (0, 0)), ("meet", (0, 1)), ([], ("end",)), [([], ("end",))],
]


def one_block(*rows):
    return [(list(rows), ("end",))]


def behind_take(row):
    """A program of one block: a take, a num, a tell and then this row."""
    return one_block(("take", 0), ("num", 3), ("tell", 0), row)


class Asked(unittest.TestCase):
    def right(self, *programs):
        for program in programs:
            with self.subTest(right=program):
                self.assertIs(is_program(program), True)

    def wrong(self, *things):
        for thing in things:
            with self.subTest(wrong=thing):
                self.assertIs(is_program(thing), False)


class RightOnes(Asked):
    def test_samples(self):
        self.right(*samples.SMALL)

    def test_whatever_its_size_and_numbers(self):
        self.assertIs(is_program(samples.GREAT), True)
        wrong = samples.GREAT[:-1] + [([("tell", 3)], ("end",))]
        self.assertIs(is_program(wrong), False)

    def test_many_leads_and_many_rows(self):
        many = 300
        program = [([("take", 0)], ("if", 0, 1, 2))]
        for block in range(1, 2 * many, 2):
            program += [([], ("go", 2 * many + 1)), ([], ("if", 0, block + 2, block + 3))]
        program[2 * many] = ([], ("go", 2 * many + 1))
        program += [([("meet", (0,) * (many + 1))] * 200, ("end",))]
        self.assertIs(is_program(program), True)
        program[-1] = ([("meet", (0,) * many)], ("end",))
        self.assertIs(is_program(program), False)

    def test_each_kind_of_row(self):
        for word in ("sum", "less", "times", "same", "below"):
            self.right(behind_take((word, 0, 1)), behind_take((word, 1, 1)))
        self.right(*[one_block(("take", place)) for place in range(6)])
        self.right(*[one_block(("num", n)) for n in (0, -1, 10 ** 12, -(10 ** 12), 10 ** 12 + 1, 10 ** 400)])
        self.right(behind_take(("pick", 0, (1,))), behind_take(("pick", 1, (1, 1, 0, 1, 0, 0, 1))))
        self.right(behind_take(("look", (0,), 1)), behind_take(("look", (5, 4, 3, 2), 1)))
        self.right(behind_take(("lay", (5,), 1, 0)), behind_take(("lay", (1, 0, 3, 2), 0, 0)))
        self.right(behind_take(("tell", 1)))

    def test_what_came_of_reckonings_can_be_named(self):
        for row in (("sum", 0, 1), ("same", 0, 1), ("pick", 0, (1, 0)), ("look", (1, 2), 0)):
            self.right(one_block(("take", 0), ("num", 1), row, ("tell", 2)))

    def test_each_graph(self):
        for many in (1, 2, 3, 4):
            for program in samples.all_graphs(many):
                self.assertIs(is_program(program), True, program)


class OfOtherKinds(Asked):
    def test_anything(self):
        self.wrong(*[thing for thing in JUNK if thing != samples.BARE])
        deep = "deep"
        for k in range(10):
            deep = [deep] if k % 2 else (deep,)
            self.wrong(deep, {"a": deep}, [(deep, ("end",))], [([deep], deep)], [([], deep)])

    def test_lists_and_tuples_are_not_alike(self):
        self.wrong(
            tuple(samples.BARE),
            [[[], ("end",)]],
            [((), ("end",))],
            [([], ["end"])],
            one_block(["take", 0]),
            behind_take(("pick", 0, [0])),
            behind_take(("look", [0], 0)),
            behind_take(("lay", [0], 0, 0)),
            [([("take", 0)], ["go", 1]), ([], ("end",))],
            samples.SHORT_CUT[:2] + [([("meet", [0, 1])], ("end",))],
        )

    def test_no_blocks_and_other_blocks(self):
        self.wrong([], [()], [([],)], [([], ("end",), ())], [([], None)], [(None, ("end",))], [({}, ("end",))])

    def test_words(self):
        self.wrong(
            one_block(()),
            one_block(("",)),
            one_block(("Take", 0)),
            one_block(("take ", 0)),
            one_block((0, "take")),
            one_block((None, 0)),
            one_block((["take"], 0)),
            one_block(({}, 0)),
            one_block(("go", 1)),
            one_block(("end",)),
            behind_take(("add", 0, 1)),
            [([], ())],
            [([], ("stop",))],
            [([], ("take", 0))],
            [([], (["end"],))],
            [([], ({},))],
        )

    def test_parts_more_or_fewer(self):
        for row in samples.ALL_ROWS[0][0]:
            self.wrong(one_block(*samples.ALL_ROWS[0][0], row[:-1]), one_block(*samples.ALL_ROWS[0][0], row + (0,)))
        two = [([("take", 0)], ("go", 1)), ([], ("end",))]
        self.right(two)
        for end in (("go",), ("go", 1, 1), ("if", 0, 1), ("end", 0), ("end", 1)):
            self.wrong([(two[0][0], end), two[1]])
        self.wrong(samples.ENDS[:2] + [([], ("if", 0, 3, 4, 4))] + samples.ENDS[3:])

    def test_no_numbers(self):
        for other in (True, False, None, "0", "", (), (0,), [0], {}):
            self.wrong(
                one_block(("take", other)),
                one_block(("num", other)),
                behind_take(("tell", other)),
                behind_take(("pick", other, (0,))),
                behind_take(("pick", 0, (0, other))),
                behind_take(("pick", 0, other)) if other != (0,) else None,
                behind_take(("look", (0, other), 1)),
                behind_take(("look", (2,), other)),
                behind_take(("lay", (other,), 0, 0)),
                behind_take(("lay", (2,), other, 0)),
                behind_take(("lay", (2,), 0, other)),
                [([("take", 0)], ("go", other)), ([], ("end",))],
                [([("take", 0)], ("if", other, 1, 2)), ([], ("end",)), ([], ("end",))],
                [([("take", 0)], ("if", 0, other, 2)), ([], ("end",)), ([], ("end",))],
                [([("take", 0)], ("if", 0, 1, other)), ([], ("end",)), ([], ("end",))],
                samples.SHORT_CUT[:2] + [([("meet", (0, other))], ("end",))],
                samples.SHORT_CUT[:2] + [([("meet", (other, 1))], ("end",))],
            )
            for word in ("sum", "less", "times", "same", "below"):
                self.wrong(behind_take((word, other, 0)), behind_take((word, 0, other)))


class Places(Asked):
    def test_takes(self):
        self.wrong(*[one_block(("take", place)) for place in (-1, 6, 10 ** 20)])

    def test_rooms(self):
        for rooms in ((), (0, 0), (1, 2, 1), (0, 1, 2, 3, 4), (0, 1, 2, 3, 0), (6,), (-1,), (0, 6), (5, -1), 0):
            self.wrong(behind_take(("look", rooms, 0)), behind_take(("lay", rooms, 0, 1)))
        for rooms in ((0,), (5,), (5, 0), (3, 1, 2), (2, 3, 4, 5)):
            self.right(behind_take(("look", rooms, 0)), behind_take(("lay", rooms, 0, 1)))

    def test_picks_without_parts(self):
        self.wrong(behind_take(("pick", 0, ())))


class Ends(Asked):
    def test_block_0(self):
        self.wrong([([], ("go", 0))])
        self.wrong([([("take", 0)], ("go", 1)), ([], ("go", 0))])
        self.wrong([([("take", 0)], ("go", 1)), ([], ("if", 0, 0, 1))])
        self.wrong([([("take", 0)], ("go", 1)), ([], ("if", 0, 1, 0))])

    def test_blocks_that_are_not_there(self):
        for block in (-1, -2, 3, 4, 10 ** 40):
            self.wrong(
                [([("take", 0)], ("if", 0, 1, 2)), ([], ("go", block)), ([], ("end",))],
                [([("take", 0)], ("if", 0, 1, 2)), ([], ("if", 0, block, 2)), ([], ("end",))],
                [([("take", 0)], ("if", 0, 1, 2)), ([], ("if", 0, 2, block)), ([], ("end",))],
            )
        self.wrong([([], ("go", 1))], [([], ("go", -1))])

    def test_two_alike_blocks(self):
        self.wrong([([("take", 0)], ("if", 0, 1, 1)), ([], ("end",))])
        self.wrong([([("take", 0)], ("go", 1)), ([], ("if", 0, 2, 2)), ([], ("end",))])

    def test_a_test_that_does_not_stand(self):
        blocks = [([], ("end",)), ([], ("end",))]
        self.right([([("take", 0), ("num", 1)], ("if", 1, 1, 2))] + blocks)
        for name in (-1, 2, 10 ** 20):
            self.wrong([([("take", 0), ("num", 1)], ("if", name, 1, 2))] + blocks)
        self.wrong([([("take", 0), ("tell", 0)], ("if", 1, 1, 2))] + blocks)
        self.wrong([([("take", 0), ("lay", (0,), 0, 0)], ("if", 1, 1, 2))] + blocks)
        self.wrong([([("take", 0)], ("if", 1, 1, 2)), ([("num", 1)], ("end",)), ([], ("end",))])
        self.right([([("take", 0)], ("go", 1)), ([("num", 1)], ("if", 1, 1, 2)), ([], ("end",))])


class Leads(Asked):
    def test_no_lead(self):
        self.wrong([([], ("end",)), ([], ("end",))])
        self.wrong([([], ("go", 2)), ([], ("go", 2)), ([], ("end",))])

    def test_no_lesser_lead(self):
        self.wrong([([], ("end",)), ([], ("go", 1))])
        self.wrong([([], ("go", 2)), ([], ("end",)), ([], ("go", 1))])
        self.wrong([([("take", 0)], ("go", 2)), ([], ("if", 0, 1, 2)), ([], ("end",))])
        self.right([([], ("go", 1)), ([], ("go", 1))])
        self.right([([], ("go", 1)), ([], ("go", 2)), ([], ("go", 1))])


class Meets(Asked):
    def meeting(self, *rows):
        """SHORT_CUT with other rows in block 2, whose leads are 0 and 1; the first one is row 2."""
        return samples.SHORT_CUT[:2] + [(list(rows), ("end",))]

    def test_ahead_of_other_rows(self):
        meet, other = ("meet", (0, 1)), ("num", 0)
        self.right(self.meeting(meet), self.meeting(meet, meet, other), self.meeting(other))
        self.wrong(self.meeting(other, meet), self.meeting(meet, other, meet), self.meeting(meet, other, other, meet))

    def test_just_in_blocks_of_two_leads_or_more(self):
        self.wrong(one_block(("meet", ())), one_block(("meet", (0,))))
        self.wrong([([("take", 0)], ("go", 1)), ([("meet", (0,))], ("end",))])
        self.wrong([([("take", 0)], ("go", 1)), ([("meet", (0, 0))], ("end",))])
        self.right([([("take", 0)], ("go", 1)), ([("meet", (0, 0))], ("go", 1))])

    def test_a_part_for_each_lead(self):
        self.wrong(self.meeting(("meet", ())), self.meeting(("meet", (0,))), self.meeting(("meet", (0, 1, 0))))

    def test_parts_stand_at_their_leads_end_in_order(self):
        self.right(self.meeting(("meet", (0, 0))), self.meeting(("meet", (0, 1))))
        self.wrong(self.meeting(("meet", (1, 0))), self.meeting(("meet", (1, 1))))
        self.wrong(self.meeting(("meet", (0, 2))), self.meeting(("meet", (2, 1))))
        for name in (-1, 4, 10 ** 20):
            self.wrong(self.meeting(("meet", (0, name)), ("num", 1)), self.meeting(("meet", (name, 1)), ("num", 1)))

    def test_parts_have_a_worth(self):
        for worthless in (("tell", 0), ("lay", (0,), 0, 0)):
            program = [([("take", 0), worthless], ("if", 0, 1, 2)), ([], ("go", 2))]
            self.right(program + [([("meet", (0, 0))], ("end",))])
            self.wrong(program + [([("meet", (0, 1))], ("end",))], program + [([("meet", (1, 0))], ("end",))])

    def test_rounds(self):
        blocks = [([("take", 0)], ("go", 1)), None, ([("num", 3)], ("go", 1)), ([], ("end",))]

        def round_of(meet):
            return [blocks[0], ([meet, ("num", 2)], ("if", 1, 2, 3)), blocks[2], blocks[3]]

        # Behind the meet itself: its own row, a later row of its block, and one of the lead's.
        self.right(*[round_of(("meet", (0, part))) for part in (0, 1, 2, 3)])
        self.wrong(*[round_of(("meet", (part, 0))) for part in (1, 2, 3)])

    def test_a_round_jumped_into(self):
        first, last = samples.JUMPED[0], samples.JUMPED[3]

        def jumped(one, other):
            return [first, ([one], ("go", 2)), ([other], ("if", 0, 1, 3)), ([], last[1])]

        self.right(jumped(("meet", (0, 2)), ("meet", (0, 1))), jumped(("meet", (0, 0)), ("meet", (0, 0))))
        self.wrong(jumped(("meet", (0, 1)), ("meet", (0, 1))), jumped(("meet", (0, 2)), ("meet", (0, 2))))
        self.wrong(jumped(("meet", (0, 2)), ("sum", 1, 1)), jumped(("sum", 2, 2), ("meet", (0, 1))))


class Names(Asked):
    def each_row_naming(self, name):
        """A row of each kind and at each of its places that names a row, beside row 0."""
        for word in ("sum", "less", "times", "same", "below"):
            yield (word, name, 0)
            yield (word, 0, name)
        yield ("pick", name, (0, 0))
        yield ("pick", 0, (name, 0))
        yield ("pick", 0, (0, name))
        yield ("look", (1,), name)
        yield ("look", (1, 2), name)
        yield ("lay", (1, 2), name, 0)
        yield ("lay", (1, 2), 0, name)
        yield ("tell", name)

    def test_rows_that_are_there_ahead(self):
        for row in self.each_row_naming(1):
            self.right(behind_take(row))
        for name in (-1, -4, 3, 4, 5, 10 ** 20):
            for row in self.each_row_naming(name):
                # Once as the last row, once with another one behind it that it can't name, either.
                self.wrong(behind_take(row), one_block(("take", 0), ("num", 3), ("tell", 0), row, ("num", 1)))

    def test_rows_without_a_worth(self):
        for row in self.each_row_naming(2):
            self.wrong(behind_take(row))
            self.wrong(one_block(("take", 0), ("num", 3), ("lay", (0,), 0, 0), row))

    def test_rows_of_other_blocks(self):
        # Row 0 stands everywhere, 1 and 2 each on one side of a choice, 3 where the sides meet.
        blocks = [
            ([("take", 0)], ("if", 0, 1, 2)),
            ([("num", 1)], ("go", 3)),
            ([("num", 2)], ("go", 3)),
            ([("num", 3)], ("end",)),
        ]
        for name, block, answer in (
            (0, 1, True), (0, 2, True), (0, 3, True),
            (1, 0, False), (1, 1, True), (1, 2, False), (1, 3, False),
            (2, 2, True), (2, 3, False), (3, 3, True),
        ):
            for row in self.each_row_naming(name):
                program = deepcopy(blocks)
                program[block][0].append(row)
                (self.right if answer else self.wrong)(program)

    def test_behind_a_round(self):
        head = ([("take", 0)], ("go", 1))
        self.right([head, ([("num", 1)], ("if", 0, 2, 3)), ([("tell", 1)], ("go", 1)), ([("tell", 1)], ("end",))])
        self.wrong([head, ([], ("if", 0, 2, 3)), ([("num", 1)], ("go", 1)), ([("tell", 1)], ("end",))])
        self.wrong([head, ([("tell", 2)], ("if", 0, 2, 3)), ([("num", 1)], ("go", 1)), ([], ("end",))])
        self.wrong([head, ([("tell", 2), ("num", 1)], ("if", 0, 1, 2)), ([], ("end",))])

    def test_each_row_from_each_block_of_some_graphs(self):
        for graph in samples.some_graphs(8, 60):
            program = samples.with_a_row_each(graph)
            ways = oracle.above(program)
            for block in range(8):
                for name in range(8):
                    asked = list(program)
                    asked[block] = ([("sum", name, name)], program[block][1])
                    answer = name != block and name in ways[block]
                    self.assertIs(is_program(asked), answer, asked)

    def test_a_later_lead_takes_away(self):
        blocks = list(samples.LATE_LEAD)
        blocks[2] = ([("tell", 1)], ("go", 4))
        self.wrong(blocks)
        blocks[2] = ([], ("go", 4))
        blocks[4] = ([("tell", 1)], ("end",))
        self.wrong(blocks)
        blocks[3] = ([], ("end",))
        self.right(blocks)


class OneThingOtherwise(unittest.TestCase):
    def test_as_the_words_tell(self):
        for program in samples.SMALL:
            for thing in variants(program, JUNK):
                self.assertIs(is_program(thing), oracle.is_program(thing), thing)

    def test_other_numbers_named(self):
        for program in samples.SMALL:
            for thing in numbers_otherwise(program, range(-1, 12)):
                self.assertIs(is_program(thing), oracle.is_program(thing), thing)


class Plain(unittest.TestCase):
    def test_plain(self):
        for program in samples.SMALL:
            if program not in (samples.ALL_ROWS, samples.ROOMS):
                self.assertIs(is_plain(program), True)

    def test_with_rooms(self):
        self.assertIs(is_plain(samples.ALL_ROWS), False)
        self.assertIs(is_plain(samples.ROOMS), False)
        self.assertIs(is_plain(behind_take(("look", (0,), 0))), False)
        self.assertIs(is_plain(behind_take(("lay", (0,), 0, 0))), False)
        self.assertIs(is_plain(behind_take(("tell", 0))), True)

    def test_rooms_in_the_last_block(self):
        for row in (("look", (0,), 0), ("lay", (0,), 0, 0)):
            blocks = [([("take", 0)], ("if", 0, 1, 2)), ([], ("end",)), ([("num", 2), row, ("tell", 0)], ("end",))]
            self.assertIs(is_program(blocks), True)
            self.assertIs(is_plain(blocks), False)


class HandedIn(unittest.TestCase):
    def test_stays_as_it_was(self):
        for thing in samples.SMALL + JUNK + [samples.ENDS[:3], [({}, []), [{"a": [1]}]]]:
            handed = deepcopy(thing)
            is_program(handed)
            self.assertEqual(handed, thing)
        for program in samples.SMALL:
            handed = deepcopy(program)
            is_plain(handed)
            self.assertEqual(handed, program)

    def test_a_later_change_is_answered_anew(self):
        program = deepcopy(samples.CHOICE)
        self.assertIs(is_program(program), True)
        program[0][0].append(("look", (1,), 9))
        self.assertIs(is_program(program), False)
        program[0][0][-1] = ("look", (1,), 0)
        self.assertIs(is_program(program[:1]), False)
        self.assertIs(is_plain(program), False)
        program[0][0].pop()
        self.assertIs(is_program(program), True)
        self.assertIs(is_plain(program), True)


if __name__ == "__main__":
    unittest.main()
