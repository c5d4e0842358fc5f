"""Point 13 taken word by word, with forms written out whole (tests/slowforms.py)."""

from tests import oracle, slowforms


def facts_at(program, block):
    rows, leads, facts = oracle.rows_in(program), oracle.leads_of(program), []
    for other in oracle.above(program)[block]:
        if len(leads[other]) != 1:
            continue
        end = program[leads[other][0]][1]
        if end[0] == "if":
            word, a, x, y = end
            if other == x and rows[a][0] == "same":
                facts += [("alike", rows[a][1], rows[a][2]), ("one", a)]
            elif other == x and rows[a][0] == "below":
                facts += [("one", a)]
            elif other == y:
                facts += [("none", a)]
    return facts


def replaced(f, what, g):
    """A form with an atom replaced wherever it stands; tests and picks are made anew."""
    total = ()
    for product, number in f:
        whole = slowforms.num(number)
        for atom, power in product:
            for k in range(power):
                whole = slowforms.times(whole, g if atom == what else anew(atom, what, g))
        total = slowforms.plus(total, whole)
    return total


def anew(atom, what, g):
    if atom[0] == "leaf":
        return slowforms.atom(atom)
    inner = replaced(atom[1], what, g)
    if atom[0] == "same":
        return slowforms.same(inner, ())
    if atom[0] == "below":
        return slowforms.below(slowforms.num(-1), inner)
    return slowforms.pick(inner, [replaced(part, what, g) for part in atom[2]])


def leaves_within(f):
    """The names of the leaves within a form's tests and picks."""
    found = set()
    for product, number in f:
        for atom, power in product:
            if atom[0] != "leaf":
                found |= set(slowforms.leaves_in(slowforms.atom(atom)))
    return found


def told_by(f):
    """The atom that a fact's form tells, and what it is; None where it tells none."""
    leaves = []
    for product, number in f:
        if len(product) == 1 and product[0][1] == 1 and number in (1, -1) and product[0][0][0] == "leaf":
            atom = product[0][0]
            if sum(atom in [inner for inner, power in p] for p, n in f) == 1 and atom[1] not in leaves_within(f):
                leaves.append(atom)
    others = [(product, number) for product, number in f if product != ()]
    if leaves:
        atom = max(leaves, key=lambda leaf: leaf[1])
    elif len(others) == 1 and len(others[0][0]) == 1 and others[0][1] in (1, -1):
        atom, power = others[0][0][0]
        if power != 1 or atom[0] not in ("same", "below"):
            return None
    else:
        return None
    sign = dict(f)[((atom, 1),)]
    rest = slowforms.minus(f, slowforms.times(slowforms.num(sign), slowforms.atom(atom)))
    return atom, slowforms.times(slowforms.num(-sign), rest)


def seen_forms(program, block):
    """For each row with a worth that stands at a block's end its form there, and how the facts were taken."""
    ahead, owners = oracle.above(program)[block], oracle.owners_in(program)
    made = slowforms.parted(program)
    made = {row: made[row] for row in oracle.with_worth(program) if owners[row] in ahead}
    taken = []
    for fact in facts_at(program, block):
        if fact[0] == "alike":
            f = slowforms.minus(made[fact[1]], made[fact[2]])
        else:
            f = slowforms.minus(made[fact[1]], slowforms.num(1 if fact[0] == "one" else 0))
        told = told_by(f)
        taken.append(told and told[0][0])
        if told:
            made = {row: replaced(form, *told) for row, form in made.items()}
    return made, taken


def seen_from(program, block):
    made = seen_forms(program, block)[0]
    return [
        min(other for other in made if made[other] == made[row]) if row in made else None
        for row in range(len(oracle.rows_in(program)))
    ]
