"""Point 11 taken word by word. A spread is a dict from a rising tuple of rows to the number ahead of it."""

from math import gcd

from tests import oracle


def clean(spread):
    return {rows: n for rows, n in spread.items() if n}


def plus(one, other, many):
    return clean({rows: one.get(rows, 0) + many * other.get(rows, 0) for rows in {**one, **other}})


def times(one, other):
    whole = {}
    for left, n in one.items():
        for right, m in other.items():
            whole = plus(whole, {tuple(sorted(left + right)): n * m}, 1)
    return whole


def put(spread, x, by):
    whole = {}
    for rows, n in spread.items():
        term = {(): n}
        for row in rows:
            term = times(term, by if row == x else {(row,): 1})
        whole = plus(whole, term, 1)
    return whole


def alone(row):
    return {(row,): 1}


def number(spread):
    """The number that a spread is, or None."""
    return spread.get((), 0) if set(spread) <= {()} else None


def looked_at(row):
    """The spread that a test or a pick is looked at by."""
    if row[0] == "pick":
        return alone(row[1])
    one, other = row[1:] if row[0] == "same" else row[:0:-1]
    return plus(alone(one), alone(other), -1)


def test_of(word, spread):
    """1, 0, or the test as something to compare."""
    n, c = number(spread), spread.get((), 0)
    if n is not None:
        return int(n == 0 if word == "same" else n > 0)
    others = {rows: m for rows, m in spread.items() if rows}
    h = gcd(*others.values())
    if word == "below":
        return (word, sorted((rows, m // h) for rows, m in others.items()), (c - 1) // h)
    if c % h:
        return 0
    ways = [(word, sorted((rows, s * m // h) for rows, m in others.items()), s * c // h) for s in (1, -1)]
    return min(ways)


def rests(spread, many):
    return clean({rows: n % many for rows, n in spread.items()})


def behind_step(rows, entries, spread, step, own):
    """The spread behind one step, None where it can't be done."""
    if type(step) is int:
        if not any(step in product for product in spread):
            return None
        if step in entries and step != own:
            return put(spread, step, alone(entries[step]))
        word, *args = rows[step]
        if word not in ("num", "sum", "less", "times"):
            return None
        if word == "num":
            return put(spread, step, clean({(): args[0]}))
        one, other = map(alone, args)
        return put(spread, step, times(one, other) if word == "times" else plus(one, other, 1 if word == "sum" else -1))
    if type(step) is not tuple or len(step) != 2 or type(step[0]) is not int or type(step[1]) is not list:
        return None
    x, steps = step
    if not any(x in product for product in spread) or rows[x][0] not in ("same", "below", "pick"):
        return None
    inner, bad = opened(rows, entries, looked_at(rows[x]), steps, None)
    if bad is not None:
        return None
    if rows[x][0] == "pick":
        parts = rows[x][2]
        n = number(rests(inner, len(parts)))
        return None if n is None else put(spread, x, alone(parts[n]))
    told = test_of(rows[x][0], inner)
    return put(spread, x, clean({(): told})) if type(told) is int else None


def opened(rows, entries, spread, steps, own):
    """A pair: the opened spread and None, or None and the place of the first step that can't be done."""
    for at, step in enumerate(steps):
        spread = behind_step(rows, entries, spread, step, own)
        if spread is None:
            return None, at
    return spread, None


def is_row(rows, thing):
    return type(thing) is int and thing in range(len(rows)) and rows[thing][0] not in ("lay", "tell")


def is_entry(rows, entry):
    if type(entry) is not tuple or len(entry) != 3 or not is_row(rows, entry[0]) or not is_row(rows, entry[1]):
        return False
    why = entry[2]
    if entry[1] >= entry[0] or type(why) is not tuple or not why or type(why[0]) is not str:
        return False
    if why[0] in ("takes", "meets", "parts"):
        return len(why) == 1
    return why[0] in ("sums", "tests", "picks") and [type(part) for part in why[1:]] == [list, list]


def shows_paper(program, paper):
    rows = oracle.rows_in(program)
    if type(paper) is not list or not all(is_entry(rows, entry) for entry in paper):
        return False
    entered = [entry[0] for entry in paper]
    if sorted(set(entered)) != entered or any(entry[1] in entered for entry in paper):
        return False
    owners = oracle.owners_in(program)
    entries = {row: other for row, other, why in paper}
    return all(is_so(rows, owners, entries, *entry) for entry in paper)


def is_so(rows, owners, entries, row, other, why):
    def leasts(parts):
        return [entries.get(part, part) for part in parts]

    what, also, word = rows[row], rows[other], why[0]
    if word == "takes":
        return what[0] == also[0] == "take" and what[1] == also[1]
    if word == "meets":
        both = what[0] == also[0] == "meet" and owners[row] == owners[other]
        return both and leasts(what[1]) == leasts(also[1])
    if word == "parts":
        if what[0] == "meet":
            return set(leasts([part for part in what[1] if part != row])) == {other}
        return what[0] == "pick" and set(leasts(what[2])) == {other}
    if word == "sums":
        one, bad = opened(rows, entries, alone(row), why[1], row)
        two, worse = opened(rows, entries, alone(other), why[2], row)
        return bad is None and worse is None and one == two
    if what[0] != also[0] or what[0] not in {"tests": ("same", "below"), "picks": ("pick",)}[word]:
        return False
    one, bad = opened(rows, entries, looked_at(what), why[1], None)
    two, worse = opened(rows, entries, looked_at(also), why[2], None)
    if bad is not None or worse is not None:
        return False
    if word == "tests":
        told = test_of(what[0], one)
        return type(told) is not int and told == test_of(what[0], two)
    many = len(what[2])
    return many == len(also[2]) and leasts(what[2]) == leasts(also[2]) and rests(one, many) == rests(two, many)
