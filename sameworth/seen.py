"""What tests have told on all ways to a block, and rows alike by it."""

from sameworth.blocks import above, leads_of, owners_of, rows_of
from sameworth.numbering import Numbering
from sameworth.sums import atoms_in


def facts_at(program, block):
    """The list of what is told on all ways to a block."""
    leads = leads_of(program)
    rows = rows_of(program)
    facts = []
    for other in above(program)[block]:
        if len(leads[other]) == 1:
            facts.extend(facts_behind(rows, program[leads[other][0]][1], other))
    return facts


def facts_behind(rows, end, block):
    """The list of what is told by coming to a block from an end that names it, and from no other one."""
    if end[0] != "if":
        return []
    tested = end[1]
    if block != end[2]:
        return [("none", tested)]
    row = rows[tested]
    if row[0] == "same":
        return [("alike", row[1], row[2]), ("one", tested)]
    return [("one", tested)] if row[0] == "below" else []


def seen_from(program, block):
    """The list, for each row that stands at a block's end, of the least one alike with it there; None of others."""
    numbering = Numbering(program)
    ahead = above(program)[block]
    made = [form if owner in ahead else None for form, owner in zip(numbering.made, owners_of(program))]
    for fact in facts_at(program, block):
        made = changed_by(numbering.forms, made, form_of_fact(numbering.forms, made, fact))
    leasts = {}
    for row, form in enumerate(made):
        leasts.setdefault(form, row)
    return [None if form is None else leasts[form] for form in made]


def form_of_fact(forms, made, fact):
    """The form that a fact tells to be 0."""
    if fact[0] == "alike":
        return forms.minus(made[fact[1]], made[fact[2]])
    if fact[0] == "one":
        return forms.minus(made[fact[1]], forms.num(1))
    return made[fact[1]]


def changed_by(forms, made, fact):
    """The list of the rows' forms, None of some, changed by a fact's form."""
    atom = atom_told(forms, fact)
    if atom is None:
        return made
    what = forms.atoms[atom]
    instead = forms.keep(rest_without(forms.sums[fact], atom))
    return [None if form is None else forms.exchanged(form, what, instead) for form in made]


def rest_without(total, atom):
    """What an atom that is a product alone, 1 or -1 ahead, must be for a sum to be 0."""
    sign = total[(atom,)]
    return {product: -sign * number for product, number in total.items() if product != (atom,)}


def atom_told(forms, fact):
    """The atom that a fact's form tells: the greatest leaf that it can, else its one test; None where there's none."""
    total = forms.sums[fact]
    alone = [product[0] for product, number in total.items() if len(product) == 1 and abs(number) == 1]
    within = atoms_in_tests(forms, total)
    leaves = [atom for atom in alone if is_kind(forms, atom, ("leaf",)) and not stands_more(total, within, atom)]
    if leaves:
        return max(leaves, key=lambda leaf: forms.atoms[leaf][1])
    others = [product for product in total if product != ()]
    if len(others) == 1 and alone and is_kind(forms, alone[0], ("same", "below")):
        return alone[0]
    return None


def is_kind(forms, atom, kinds):
    return forms.atoms[atom][0] in kinds


def atoms_in_tests(forms, total):
    """A dict of True for the atoms that stand within a sum's tests and picks."""
    within = {}
    for atom in atoms_in(total):
        for form in forms.forms_within(atom):
            for inner in forms.atoms_within(form):
                within[inner] = True
    return within


def stands_more(total, within, atom):
    """Whether an atom stands in more than one of a sum's products, or within its tests and picks."""
    return atom in within or len([product for product in total if atom in product]) > 1
