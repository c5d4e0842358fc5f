"""Points 8 and 9 taken word by word, with forms written out whole.

A form is a tuple of pairs (product, number), a product a tuple of pairs (atom, power); an atom is
("leaf", name), ("same", form), ("below", form) or ("pick", form, parts). All stand in the order of
how they are written, so like forms are like tuples.
"""

from itertools import product as each_choice
from math import gcd

from tests import oracle


def form(numbers):
    return tuple(sorted(((p, n) for p, n in numbers.items() if n), key=repr))


def num(n):
    return form({(): n})


def leaf(name):
    return atom(("leaf", name))


def atom(a):
    return form({((a, 1),): 1})


def plus(f, g, many=1):
    numbers = dict(f)
    for p, n in g:
        numbers[p] = numbers.get(p, 0) + many * n
    return form(numbers)


def minus(f, g):
    return plus(f, g, -1)


def times(f, g):
    numbers = {}
    for p, n in f:
        for q, m in g:
            powers = dict(p)
            for a, many in q:
                powers[a] = powers.get(a, 0) + many
            key = tuple(sorted(powers.items(), key=repr))
            numbers[key] = numbers.get(key, 0) + n * m
    return form(numbers)


def number_in(f):
    return 0 if f == () else f[0][1] if len(f) == 1 and f[0][0] == () else None


def split(d):
    numbers = dict(d)
    c = numbers.pop((), 0)
    return numbers, c, gcd(*numbers.values())


def same(f, g):
    d = minus(f, g)
    if number_in(d) is not None:
        return num(int(number_in(d) == 0))
    others, c, h = split(d)
    if c % h:
        return num(0)
    one = form({**{p: n // h for p, n in others.items()}, (): c // h})
    return atom(("same", min(one, minus((), one), key=repr)))


def below(f, g):
    d = minus(g, f)
    if number_in(d) is not None:
        return num(int(number_in(d) > 0))
    others, c, h = split(d)
    return atom(("below", form({**{p: n // h for p, n in others.items()}, (): (c - 1) // h})))


def pick(f, parts):
    left = form({p: n % len(parts) for p, n in f})
    if number_in(left) is not None:
        return parts[number_in(left)]
    if len(set(parts)) == 1:
        return parts[0]
    return atom(("pick", left, tuple(parts)))


def leaves_in(f):
    found = set()
    for p, n in f:
        for a, power in p:
            if a[0] == "leaf":
                found.add(a[1])
            else:
                found.update(leaves_in(a[1]), *[leaves_in(part) for part in a[2:] for part in part])
    return sorted(found)


def row_form(row, made):
    word, *args = row
    if word == "take":
        return leaf((0, args[0]))
    if word == "num":
        return num(args[0])
    if word == "pick":
        return pick(made[args[0]], [made[part] for part in args[1]])
    return {"sum": plus, "less": minus, "times": times, "same": same, "below": below}[word](*(made[a] for a in args))


def forms_by(rows, leaf_of):
    """Each row's form, leaf_of having for each meet the meet whose leaf it is, None where it is as its first part."""
    made = []
    for number, row in enumerate(rows):
        if row[0] in ("lay", "tell"):
            made.append(None)
        elif row[0] == "meet":
            named = leaf_of[number]
            made.append(made[row[1][0]] if named is None else leaf((1, named)))
        else:
            made.append(row_form(row, made))
    return made


def leaf_wanted(rows, owners, made, meet):
    """What point 9 asks of a meet by the forms made: the meet whose leaf it is, or None."""
    def parts_of(number):
        return [made[part] for part in rows[number][1]]
    own = parts_of(meet)
    if all(part == own[0] for part in own):
        return None
    return min(
        other for other in range(len(rows))
        if rows[other][0] == "meet" and owners[other] == owners[meet] and parts_of(other) == own
    )


def readings(program):
    """The list of all readings: each choice of leaves for the meets that is as point 9 asks."""
    rows, owners = oracle.rows_in(program), oracle.owners_in(program)
    meets = [number for number, row in enumerate(rows) if row[0] == "meet"]
    choices = [[None] + [o for o in meets if o <= m and owners[o] == owners[m]] for m in meets]
    found = []
    for chosen in each_choice(*choices):
        leaf_of = dict(zip(meets, chosen))
        made = forms_by(rows, leaf_of)
        if all(leaf_wanted(rows, owners, made, m) == leaf_of[m] for m in meets):
            found.append(made)
    return found


def parted(program):
    """The forms that come of guessing each meet as its first part, and parting until all comes out."""
    rows, owners = oracle.rows_in(program), oracle.owners_in(program)
    leaf_of = {number: None for number, row in enumerate(rows) if row[0] == "meet"}
    while True:
        made = forms_by(rows, leaf_of)
        wanted = {m: leaf_wanted(rows, owners, made, m) for m in leaf_of}
        if wanted == leaf_of:
            return made
        leaf_of = wanted


def numbers(made):
    """For each row the least one of one form with it."""
    return [None if f is None else made.index(f) for f in made]
