"""Whether numbers of rows are those of a reading."""

from sameworth.blocks import owners_of, rows_of
from sameworth.forms import Forms
from sameworth.rowforms import form_of_meet, form_of_row
from sameworth.rows import has_worth, is_meet
from sameworth.shapes import is_number


def shows_reading(program, numbers):
    """Whether a thing is the list of the rows' numbers by a reading."""
    rows = rows_of(program)
    if not isinstance(numbers, list) or len(numbers) != len(rows):
        return False
    if not all(is_number_fit(rows, numbers, row) for row in range(len(rows))):
        return False
    return are_meets_fit(rows, owners_of(program), numbers) and are_forms_fit(rows, numbers)


def is_number_fit(rows, numbers, row):
    """Whether a row without a worth has None, each other one itself or a lesser row that is its own number."""
    least = numbers[row]
    if not has_worth(rows[row]):
        return least is None
    if not is_number(least) or not 0 <= least <= row:
        return False
    return numbers[least] == least


def are_meets_fit(rows, owners, numbers):
    """Whether each meet has the number that its parts' numbers ask for."""
    leasts = {}
    for number, row in enumerate(rows):
        if is_meet(row):
            parts = tuple([numbers[part] for part in row[1]])
            asked = leasts.setdefault((owners[number], parts), number)
            if all(part == parts[0] for part in parts):
                asked = parts[0]
            if numbers[number] != asked:
                return False
    return True


def are_forms_fit(rows, numbers):
    """Whether rows have one number just where they have one form.

    Each row is looked at as soon as its form is made, so that numbers that are no reading's don't
    make forms that no reading has, however great.
    """
    forms = Forms()
    made = []
    leasts = {}
    for number, row in enumerate(rows):
        if not has_worth(row):
            made.append(None)
            continue
        if not is_meet(row):
            made.append(form_of_row(forms, row, made))
        elif numbers[number] != number:
            made.append(made[numbers[number]])
        else:
            made.append(form_of_meet(forms, number))
        if leasts.setdefault(made[number], number) != numbers[number]:
            return False
    return True
