"""Rows alike: the widest reading of a program.

A guess names, for some meets, the meet whose leaf they are; each other meet is taken to be as its
part by the first lead, which is a lesser row, so a guess gives each row a form. The first guess
takes all meets so. What is alike in any reading is alike by it, and stays so as meets are parted
by their parts' forms: the first guess that comes out again is the widest reading.
"""

from sameworth.blocks import owners_of, rows_of
from sameworth.forms import Forms
from sameworth.rowforms import form_of_meet, form_of_row
from sameworth.rows import has_worth, is_meet


def numbers_of(program):
    """The list, for each row, of the least row alike with it, None of lay and tell."""
    return Numbering(program).numbers()


class Numbering:
    """The widest reading of a program."""

    def __init__(self, program):
        rows = rows_of(program)
        owners = owners_of(program)
        self.forms = Forms()
        self.guess = {}
        self.made = make_forms(self.forms, rows, self.guess)
        parted = parted_meets(rows, owners, self.made)
        while parted != self.guess:
            self.guess = parted
            self.made = make_forms(self.forms, rows, self.guess)
            parted = parted_meets(rows, owners, self.made)

    def numbers(self):
        """The list, for each row, of the least row alike with it, None of lay and tell."""
        leasts = {}
        for row, form in enumerate(self.made):
            leasts.setdefault(form, row)
        return [None if form is None else leasts[form] for form in self.made]

    def leaves(self, row):
        """The rising list of the names of the leaves in a row's form."""
        return self.forms.leaves_in(self.made[row])

    def worth(self, row, worths):
        """A row's worth by a dict from the names of its leaves to numbers."""
        return self.forms.worth(self.made[row], worths)

    def is_leaf(self, row):
        """Whether a meet's form is a leaf of a meet of its own block."""
        return row in self.guess


def make_forms(forms, rows, guess):
    """The list of the rows' forms by a guess, None of rows without a worth."""
    made = []
    for number, row in enumerate(rows):
        if not has_worth(row):
            made.append(None)
        elif number in guess:
            made.append(form_of_meet(forms, guess[number]))
        elif is_meet(row):
            made.append(made[row[1][0]])
        else:
            made.append(form_of_row(forms, row, made))
    return made


def parted_meets(rows, owners, made):
    """A dict from each meet whose parts' forms aren't all one to the least of its block with such parts."""
    leasts = {}
    parted = {}
    for number, row in enumerate(rows):
        if is_meet(row):
            parts = tuple([made[part] for part in row[1]])
            if any(part != parts[0] for part in parts):
                parted[number] = leasts.setdefault((owners[number], parts), number)
    return parted
