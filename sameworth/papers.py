"""Papers that show what the widest reading tells alike."""

from sameworth.blocks import rows_of
from sameworth.numbering import numbers_of
from sameworth.shapes import is_number
from sameworth.spreads import Spreads, first_spread, told_by
from sameworth.sums import atom_sum, atoms_in

TESTS = ("same", "below")


def paper_of(program):
    """A paper by which each row's least is its number."""
    writer = Writer(rows_of(program), numbers_of(program))
    return writer.entries()


def copied(steps):
    return [step if is_number(step) else (step[0], copied(step[1])) for step in steps]


class Writer:
    """Writes a paper by the rows' numbers.

    Each spread is opened as far as can be. What is left then are rows that are their own numbers
    and stand for one leaf, test or pick each, so rows of one form have one spread.
    """

    def __init__(self, rows, leasts):
        self.rows = rows
        self.leasts = leasts
        self.spreads = Spreads(rows, {row: least for row, least in enumerate(leasts) if least not in (None, row)})
        self.tested = {}

    def entries(self):
        paper = []
        for row, least in enumerate(self.leasts):
            if least == row:
                self.note_test(row)
            elif least is not None:
                paper.append((row, least, self.why(row, least)))
        return paper

    def note_test(self, row):
        """Note the steps by which a test that is its own number is 1 or 0, for the spreads of greater rows."""
        what = self.rows[row]
        if what[0] in TESTS:
            steps, spread = self.all_steps(first_spread(what), None)
            if told_by(what, spread) is not None:
                self.tested[row] = steps

    def all_steps(self, spread, own):
        """The list of the steps that open a spread as far as can be, and what it then is."""
        steps = []
        row = self.row_to_open(spread, own)
        while row is not None:
            step = (row, copied(self.tested[row])) if row in self.tested else row
            steps.append(step)
            spread = self.spreads.open_once(spread, step, own)
            row = self.row_to_open(spread, own)
        return (steps, spread)

    def row_to_open(self, spread, own):
        """The greatest row in a spread that can be opened: it doesn't come again, as it becomes lesser ones."""
        rows = [row for row in atoms_in(spread) if row in self.tested or self.spreads.made_of(row, own) is not None]
        return rows[-1] if rows else None

    def why(self, row, other):
        what = self.rows[row]
        if what[0] == "take":
            return ("takes",)
        if what[0] == "meet":
            return ("parts",) if self.are_as(what[1], row, other) else ("meets",)
        if what[0] == "pick" and self.are_as(what[2], row, other):
            return ("parts",)
        if what[0] in TESTS or what[0] == "pick":
            return self.why_by_difference(row, other)
        return self.why_by_sums([], atom_sum(row), row, other)

    def are_as(self, parts, row, other):
        """Whether each part is the row itself or has other as its number."""
        return all(part == row or self.leasts[part] == other for part in parts)

    def why_by_difference(self, row, other):
        """Why a test or a pick is as another row: it's known what it is, or both are one test or pick."""
        what = self.rows[row]
        steps, spread = self.all_steps(first_spread(what), None)
        told = told_by(what, spread)
        if told is not None:
            return self.why_by_sums([(row, steps)], told, row, other)
        others, rest = self.all_steps(first_spread(self.rows[other]), None)
        return ("picks" if what[0] == "pick" else "tests", steps, others)

    def why_by_sums(self, first, spread, row, other):
        """Why two rows are one sum, by the first steps on the one and the spread behind them."""
        steps, one = self.all_steps(spread, row)
        others, two = self.all_steps(atom_sum(other), row)
        return ("sums", first + steps, others)
