"""Whether a paper shows which rows are alike. It knows nothing of how papers are found."""

from sameworth.blocks import owners_of, rows_of
from sameworth.errors import BadStep
from sameworth.rows import has_worth, is_meet
from sameworth.shapes import is_number, word_of
from sameworth.spreads import Spreads, first_spread, others_in
from sameworth.sums import atom_sum, below_core, rests, same_core, told_below, told_same

BARE_WHYS = ("takes", "meets", "parts")
WHYS_BY_STEPS = ("sums", "tests", "picks")


def shows_paper(program, paper):
    """Whether a thing is a paper for a program."""
    rows = rows_of(program)
    if not is_paper_written(rows, paper):
        return False
    check = Check(rows, owners_of(program), paper)
    # From the least row up, until one isn't so: a spread has just lesser rows, so none is opened by a
    # wrong entry, which could make it greater than any right one.
    return all(check.is_entry_so(entry) for entry in paper)


def leasts_by(program, paper):
    """The list of the rows' leasts by a paper that is one, None of lay and tell."""
    return leasts_of(rows_of(program), others_in(paper))


def leasts_of(rows, others):
    return [others.get(number, number) if has_worth(row) else None for number, row in enumerate(rows)]


def is_row_with_worth(rows, thing):
    return is_number(thing) and 0 <= thing < len(rows) and has_worth(rows[thing])


def is_why_written(why):
    word = word_of(why)
    if word in BARE_WHYS:
        return len(why) == 1
    if word in WHYS_BY_STEPS:
        return len(why) == 3 and isinstance(why[1], list) and isinstance(why[2], list)
    return False


def is_entry_written(rows, entry):
    if not isinstance(entry, tuple) or len(entry) != 3:
        return False
    row, other, why = entry
    if not is_row_with_worth(rows, row) or not is_row_with_worth(rows, other):
        return False
    return other < row and is_why_written(why)


def is_paper_written(rows, paper):
    """Whether a thing is a list of entries, rows rising, others without entries, whatever the whys tell."""
    if not isinstance(paper, list) or not all(is_entry_written(rows, entry) for entry in paper):
        return False
    entered = [row for row, other, why in paper]
    if any(one >= other for one, other in zip(entered, entered[1:])):
        return False
    return not any(other in entered for row, other, why in paper)


class Check:
    """Looks at the entries of a paper that is written as it must be."""

    def __init__(self, rows, owners, paper):
        others = others_in(paper)
        self.rows = rows
        self.owners = owners
        self.leasts = leasts_of(rows, others)
        self.spreads = Spreads(rows, others)

    def is_entry_so(self, entry):
        row, other, why = entry
        if why[0] == "takes":
            return self.take_alike(row, other)
        if why[0] == "meets":
            return self.meet_alike(row, other)
        if why[0] == "parts":
            return self.has_parts_alike(row, other)
        try:
            return self.is_so_by_steps(row, other, why)
        except BadStep:
            return False

    def take_alike(self, row, other):
        return self.rows[row][0] == "take" and self.rows[row] == self.rows[other]

    def meet_alike(self, row, other):
        if not is_meet(self.rows[row]) or not is_meet(self.rows[other]) or self.owners[row] != self.owners[other]:
            return False
        return self.leasts_in(self.rows[row][1]) == self.leasts_in(self.rows[other][1])

    def has_parts_alike(self, row, other):
        what = self.rows[row]
        if what[0] == "meet":
            return all(part == row or self.leasts[part] == other for part in what[1])
        return what[0] == "pick" and all(self.leasts[part] == other for part in what[2])

    def leasts_in(self, parts):
        return [self.leasts[part] for part in parts]

    def is_so_by_steps(self, row, other, why):
        """Whether an entry is so by the steps of its why; BadStep where one can't be done."""
        word, steps, others = why
        if word == "sums":
            return self.spreads.open_by(atom_sum(row), steps, row) == self.spreads.open_by(atom_sum(other), others, row)
        what = self.rows[row]
        also = self.rows[other]
        if what[0] != also[0] or what[0] not in (("same", "below") if word == "tests" else ("pick",)):
            return False
        one = self.spreads.open_by(first_spread(what), steps, None)
        two = self.spreads.open_by(first_spread(also), others, None)
        if word == "tests":
            return is_one_test(what[0], one, two)
        if self.leasts_in(what[2]) != self.leasts_in(also[2]):
            return False
        return rests(one, len(what[2])) == rests(two, len(what[2]))


def is_one_test(word, one, other):
    """Whether two differences make one test, and no number."""
    if word == "same":
        return told_same(one) is None and told_same(other) is None and same_core(one) == same_core(other)
    return told_below(one) is None and told_below(other) is None and below_core(one) == below_core(other)
