import unittest
from copy import deepcopy

from sameworth.errors import BadRow, NoProgram
from sameworth.texts import program_text, read_program
from tests import drawn, oracle, samples
from tests.owning import check_own

# Each kind of row and end.
WRITTEN = [
    (
        [
            ("take", 5), ("num", -1000000000000), ("num", 0), ("sum", 0, 1), ("less", 2, 0), ("times", 3, 3),
            ("same", 4, 0), ("below", 0, 5), ("pick", 6, (0, 1, 0)), ("pick", 6, (2,)), ("look", (3,), 7),
            ("look", (5, 0, 2, 1), 0), ("lay", (0, 1), 2, 9), ("lay", (4,), 3, 3), ("tell", 9),
        ],
        ("if", 0, 1, 2),
    ),
    ([("num", 1000000000000)], ("go", 2)),
    ([("meet", (0, 15)), ("tell", 16)], ("end",)),
]
WRITTEN_TEXT = """block
take 5
num -1000000000000
num 0
sum 0 1
less 2 0
times 3 3
same 4 0
below 0 5
pick 6 0 1 0
pick 6 2
look 7 3
look 0 5 0 2 1
lay 2 9 0 1
lay 3 3 4
tell 9
if 0 1 2
block
num 1000000000000
go 2
block
meet 0 15
tell 16
end"""


class Both(unittest.TestCase):
    def test_each_kind(self):
        self.assertEqual(program_text(WRITTEN), WRITTEN_TEXT)
        self.assertEqual(read_program(WRITTEN_TEXT), WRITTEN)
        self.assertEqual(program_text(samples.BARE), "block\nend")
        self.assertEqual(read_program("block\nend"), samples.BARE)

    def test_both_ways(self):
        chosen = samples.SMALL + [program for program, numbers in samples.NUMBERED]
        chosen += list(drawn.programs(901, 100, rooms=True)) + list(drawn.programs(902, 10, 16, 6, rooms=True))
        for program in chosen:
            text = program_text(program)
            self.assertIs(type(text), str)
            read = read_program(text)
            self.assertEqual(read, program)
            self.assertEqual(repr(read), repr(program))
            self.assertEqual(program_text(read), text)

    def test_askers_own(self):
        for program in samples.SMALL:
            text = check_own(self, program_text, deepcopy(program))
            check_own(self, read_program, text)


class Refused(unittest.TestCase):
    def bad(self, text, row):
        with self.assertRaises(BadRow) as caught:
            read_program(text)
        self.assertEqual(caught.exception.row, row, text)
        self.assertIs(type(caught.exception.row), int)

    def none(self, text):
        with self.assertRaises(NoProgram):
            read_program(text)

    def in_block(self, row, *ahead):
        """A text of one block with a row behind others."""
        return "\n".join(["block", *ahead, row, "end"])

    def each_row(self):
        lines = WRITTEN_TEXT.split("\n")
        for at in range(len(lines)):
            yield lines, at

    def with_row(self, lines, at, line):
        return "\n".join(lines[:at] + [line] + lines[at + 1:])

    def test_blanks(self):
        for lines, at in self.each_row():
            self.bad(self.with_row(lines, at, " " + lines[at]), at)
            self.bad(self.with_row(lines, at, lines[at] + " "), at)
            self.bad(self.with_row(lines, at, "\t" + lines[at]), at)
            self.bad(self.with_row(lines, at, lines[at] + "\r"), at)
            for place, sign in enumerate(lines[at]):
                if sign == " ":
                    self.bad(self.with_row(lines, at, lines[at][:place] + " " + lines[at][place:]), at)
                    self.bad(self.with_row(lines, at, lines[at][:place] + "\t" + lines[at][place + 1:]), at)

    def test_empty_rows(self):
        for lines, at in self.each_row():
            self.bad("\n".join(lines[:at] + [""] + lines[at:]), at)
            self.bad(self.with_row(lines, at, ""), at)
            self.bad(self.with_row(lines, at, " "), at)

    def test_words(self):
        for lines, at in self.each_row():
            for line in (lines[at].upper(), lines[at].title(), "x" + lines[at], "Block", "ends", "takes 0", "0", "-"):
                self.bad(self.with_row(lines, at, line), at)

    def test_one_word_more_or_less(self):
        several = ("pick", "meet", "look", "lay")
        for lines, at in self.each_row():
            words = lines[at].split(" ")
            if words[0] not in several:
                self.bad(self.with_row(lines, at, lines[at] + " 0"), at)
                self.bad(self.with_row(lines, at, lines[at] + " 1"), at)
            for place in range(1, len(words)):
                if words[0] not in several:
                    self.bad(self.with_row(lines, at, " ".join(words[:place] + words[place + 1:])), at)

    def test_one_part_or_room_at_least(self):
        for row in ("pick", "pick 0", "meet", "look", "look 0", "lay", "lay 0", "lay 0 0"):
            self.bad(self.in_block(row, "take 0"), 2)
        for row in ("pick 0 0", "look 0 0", "lay 0 0 0"):
            self.assertEqual(len(read_program(self.in_block(row, "take 0"))[0][0]), 2)

    def test_numbers(self):
        for lines, at in self.each_row():
            words = lines[at].split(" ")
            for place in range(1, len(words)):
                for word in (
                    "00", "01", "0" + words[place], "+1", "+0", "--1", "- 1", "1.0", "1e3", "x", "1_0", "0x1", "",
                    "1000000000000000000", "-0", "-00", "-01", "-", "1-", "\u0661", "\u00b2", "1" * 300, "True", "None",
                ):
                    self.bad(self.with_row(lines, at, " ".join(words[:place] + [word] + words[place + 1:])), at)
                if words[0] != "num":
                    for word in ("-1", "-5", "1234567890", "1000000000", "9999999999"):
                        self.bad(self.with_row(lines, at, " ".join(words[:place] + [word] + words[place + 1:])), at)

    def test_nine_figures_are_written_right(self):
        for row in ("sum 0 999999999", "sum 100000000 0", "pick 0 999999999", "tell 123456789", "meet 999999999"):
            self.none(self.in_block(row, "take 0"))
        for end in ("go 999999999", "if 0 999999999 1", "if 999999999 1 2"):
            self.none("block\ntake 0\n" + end)

    def test_great_numbers(self):
        for number in (10 ** 12, -10 ** 12, 10 ** 12 - 1, 1 - 10 ** 12, 0, -1, 9, 1234567890):
            self.assertEqual(read_program(self.in_block(f"num {number}")), [([("num", number)], ("end",))])
        for number in (10 ** 12 + 1, -10 ** 12 - 1, 10 ** 13, -10 ** 13, 10 ** 40, -10 ** 100):
            self.bad(self.in_block(f"num {number}"), 1)

    def test_places_and_rooms(self):
        for place in range(6):
            self.assertEqual(read_program(self.in_block(f"take {place}")), [([("take", place)], ("end",))])
            program = read_program(self.in_block(f"look 0 {place}", "take 0"))
            self.assertEqual(program, [([("take", 0), ("look", (place,), 0)], ("end",))])
        for place in (6, 7, 10, 55, 999999999):
            self.bad(self.in_block(f"take {place}"), 1)
            for row in (f"look 0 {place}", f"look 0 0 {place}", f"lay 0 0 {place}", f"lay 0 0 {place} 1"):
                self.bad(self.in_block(row, "take 0"), 2)

    def test_where_rows_can_stand(self):
        self.bad("take 0\nend", 0)
        self.bad("end", 0)
        self.bad("block\nblock\nend", 1)
        self.bad("block\ntake 0\nblock\nend", 2)
        self.bad("block\nend\nend", 2)
        self.bad("block\nend\ntake 0", 2)
        self.bad("block\ntake 0\ngo 1\ntell 0\nblock\nend", 3)
        self.bad("block\nend\nblock 0\nend", 2)

    def test_texts_that_break_off(self):
        lines = WRITTEN_TEXT.split("\n")
        ends = [at for at, line in enumerate(lines) if line.split(" ")[0] in ("if", "go", "end")]
        for many in range(1, len(lines)):
            text = "\n".join(lines[:many])
            if many - 1 in ends:
                self.none(text)
            else:
                self.bad(text, many)
        self.bad("", 0)
        self.bad("\n", 0)
        self.bad("block", 1)
        self.bad("block\n", 1)

    def test_a_line_feed_at_the_end(self):
        self.bad(WRITTEN_TEXT + "\n", len(WRITTEN_TEXT.split("\n")))
        self.bad("block\nend\n", 2)
        self.bad("block\nend\n\n", 2)
        self.bad("\nblock\nend", 0)

    def test_the_first_one_is_told(self):
        self.bad("block\ntake 6\ntake 7\nend", 1)
        self.bad("block\ntake 0\nsum 0 00\nblock\n", 2)

    def test_bad_rows_go_ahead_of_no_program(self):
        self.none("block\nsum 0 0\nend")
        self.bad("block\nsum 0 0\nend\nblock\nend ", 4)
        self.bad("block\nsum 0 0\nend\nx", 3)
        self.bad("block\nsum 0 0", 2)

    def test_no_right_programs(self):
        for text in (
            "block\ntell 0\nend", "block\ntake 0\nsum 0 1\nend", "block\ntake 0\nsum 1 0\nend", "block\nmeet 0\nend",
            "block\ntake 0\ntell 0\ntell 1\nend", "block\ngo 0", "block\ngo 1", "block\nend\nblock\nend",
            "block\ntake 0\nif 0 1 1\nblock\nend", "block\ntake 0\nif 1 1 2\nblock\nend\nblock\nend",
            "block\ntake 0\nlook 0 1 1\nend", "block\ntake 0\nlook 0 0 1 2 3 4\nend", "block\ntake 0\nlay 0 0 5 5\nend",
            "block\ntake 0\nlay 0 0 0 1 2 3 4\nend", "block\ntake 0\nlook 0 0 1 2 3 4 5\nend",
            "block\ntake 0\ngo 1\nblock\nmeet 0\nend",
        ):
            self.none(text)
        four = read_program("block\ntake 0\nlook 0 5 4 3 2\nlay 0 0 2 3 4 5\nend")
        self.assertEqual(four, [([("take", 0), ("look", (5, 4, 3, 2), 0), ("lay", (2, 3, 4, 5), 0, 0)], ("end",))])

    def test_read_just_where_the_program_is_right(self):
        # One number otherwise in texts of right programs.
        read = refused = 0
        for program in samples.SMALL:
            lines = program_text(program).split("\n")
            for at, line in enumerate(lines):
                words = line.split(" ")
                for place in range(1, len(words)):
                    for other in range(6):
                        text = self.with_row(lines, at, " ".join(words[:place] + [str(other)] + words[place + 1:]))
                        wanted = self.by_hand(text)
                        if oracle.is_program(wanted):
                            self.assertEqual(read_program(text), wanted)
                            read += 1
                        else:
                            self.none(text)
                            refused += 1
        self.assertGreater(read, 100)
        self.assertGreater(refused, 300)

    def by_hand(self, text):
        program = []
        for line in text.split("\n"):
            word, *numbers = [word if word.isalpha() else int(word) for word in line.split(" ")]
            if word == "block":
                program.append([])
            elif word in ("go", "if", "end"):
                program[-1] = (program[-1], (word, *numbers))
            elif word == "look":
                program[-1].append((word, tuple(numbers[1:]), numbers[0]))
            elif word == "lay":
                program[-1].append((word, tuple(numbers[2:]), numbers[0], numbers[1]))
            elif word == "pick":
                program[-1].append((word, numbers[0], tuple(numbers[1:])))
            else:
                program[-1].append((word, tuple(numbers)) if word == "meet" else (word, *numbers))
        return program


if __name__ == "__main__":
    unittest.main()
