"""Spreads: sums of products of rows, opened step by step."""

from sameworth.blocks import rows_of
from sameworth.errors import BadStep
from sameworth.shapes import is_number
from sameworth.sums import atom_sum, joined, multiplied, number_alone, number_sum, replaced, rests
from sameworth.sums import told_below, told_same


def opened(program, paper, row, steps):
    """The rising list of pairs (rows, number) of a row's spread, opened by steps."""
    spreads = Spreads(rows_of(program), others_in(paper))
    spread = spreads.open_by(atom_sum(row), steps, row)
    return sorted(spread.items())


def others_in(paper):
    """A dict from each row that has an entry to its other."""
    return {row: other for row, other, why in paper}


def is_pair_step(thing):
    """Whether a thing is written as a row of its own with steps."""
    return isinstance(thing, tuple) and len(thing) == 2 and is_number(thing[0]) and isinstance(thing[1], list)


def first_spread(row):
    """The spread that tells of a test or a pick: of the difference that is tested, or of what picks."""
    if row[0] == "pick":
        return atom_sum(row[1])
    if row[0] == "same":
        return joined(atom_sum(row[1]), atom_sum(row[2]), -1)
    return joined(atom_sum(row[2]), atom_sum(row[1]), -1)


def told_by(row, spread):
    """What a test or a pick is by its spread, as a spread; None where that tells nothing."""
    if row[0] == "pick":
        place = number_alone(rests(spread, len(row[2])))
        return None if place is None else atom_sum(row[2][place])
    told = told_same(spread) if row[0] == "same" else told_below(spread)
    return None if told is None else number_sum(told)


class Spreads:
    """The spreads of a program's rows by the entries of a paper."""

    def __init__(self, rows, others):
        self.rows = rows
        self.others = others

    def open_by(self, spread, steps, own):
        """A spread opened by steps; own is the row whose entry isn't used, None where all are."""
        for place, step in enumerate(steps):
            spread = self.open_once(spread, step, own)
            if spread is None:
                raise BadStep(place)
        return spread

    def open_once(self, spread, step, own):
        """A spread behind one step, None where that can't be done."""
        row = step[0] if is_pair_step(step) else step
        if not is_number(row) or not any(row in product for product in spread):
            return None
        becomes = self.told_of(row, step[1]) if is_pair_step(step) else self.made_of(row, own)
        return None if becomes is None else replaced(spread, {row: becomes})

    def made_of(self, row, own):
        """The spread of a row's other, or of what a row is made of; None of rows that are made of nothing."""
        if row in self.others and row != own:
            return atom_sum(self.others[row])
        what = self.rows[row]
        if what[0] == "num":
            return number_sum(what[1])
        if what[0] == "sum":
            return joined(atom_sum(what[1]), atom_sum(what[2]), 1)
        if what[0] == "less":
            return joined(atom_sum(what[1]), atom_sum(what[2]), -1)
        if what[0] == "times":
            return multiplied(atom_sum(what[1]), atom_sum(what[2]))
        return None

    def told_of(self, row, steps):
        """What a test or a pick is by steps that open its own spread; None where these tell nothing."""
        what = self.rows[row]
        if what[0] not in ("same", "below", "pick"):
            return None
        try:
            spread = self.open_by(first_spread(what), steps, None)
        except BadStep:
            return None
        return told_by(what, spread)
