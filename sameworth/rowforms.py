"""Forms of a program's rows, made row by row."""

from sameworth.rows import rows_named


def form_of_row(forms, row, made):
    """The form of a row that has a worth and is no meet, by those made of the rows ahead."""
    word = row[0]
    if word == "take":
        return forms.leaf((0, row[1]))
    if word == "num":
        return forms.num(row[1])
    named = [made[name] for name in rows_named(row)]
    if word == "pick":
        return forms.pick(named[0], named[1:])
    one, other = named
    if word == "sum":
        return forms.plus(one, other)
    if word == "less":
        return forms.minus(one, other)
    if word == "times":
        return forms.times(one, other)
    if word == "same":
        return forms.same(one, other)
    return forms.below(one, other)


def form_of_meet(forms, meet):
    """The form of a meet that is a leaf."""
    return forms.leaf((1, meet))
