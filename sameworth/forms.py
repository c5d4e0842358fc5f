"""Forms: sums of products of leaves, tests and picks, alike ones kept once."""

from sameworth.sums import atom_sum, atoms_in, below_core, joined, multiplied, number_alone, number_sum
from sameworth.sums import replaced, rests, same_core, told_below, told_same, worth_by


class Forms:
    """Keeps forms by numbers.

    An atom is kept by a number, too: ("leaf", name), ("same", form) for "that form is 0",
    ("below", form) for "that form is 0 or more", or ("pick", form, parts). What an atom is of is
    kept ahead of it, so atoms that stand within it have lesser numbers.
    """

    def __init__(self):
        self.sums = []
        self.places = {}
        self.atoms = []
        self.atom_places = {}

    def keep(self, total):
        """The number of the form that is a sum of products of atoms."""
        key = tuple(sorted(total.items()))
        if key not in self.places:
            self.places[key] = len(self.sums)
            self.sums.append(total)
        return self.places[key]

    def keep_atom(self, atom):
        """The number of the form that is an atom alone."""
        if atom not in self.atom_places:
            self.atom_places[atom] = len(self.atoms)
            self.atoms.append(atom)
        return self.keep(atom_sum(self.atom_places[atom]))

    def num(self, n):
        return self.keep(number_sum(n))

    def leaf(self, name):
        return self.keep_atom(("leaf", name))

    def plus(self, f, g):
        return self.keep(joined(self.sums[f], self.sums[g], 1))

    def minus(self, f, g):
        return self.keep(joined(self.sums[f], self.sums[g], -1))

    def times(self, f, g):
        return self.keep(multiplied(self.sums[f], self.sums[g]))

    def same(self, f, g):
        return self.same_by(joined(self.sums[f], self.sums[g], -1))

    def same_by(self, difference):
        told = told_same(difference)
        if told is not None:
            return self.num(told)
        return self.keep_atom(("same", self.keep(same_core(difference))))

    def below(self, f, g):
        return self.below_by(joined(self.sums[g], self.sums[f], -1))

    def below_by(self, difference):
        told = told_below(difference)
        if told is not None:
            return self.num(told)
        return self.keep_atom(("below", self.keep(below_core(difference))))

    def pick(self, f, parts):
        return self.pick_by(self.sums[f], tuple(parts))

    def pick_by(self, total, parts):
        left = rests(total, len(parts))
        place = number_alone(left)
        if place is not None:
            return parts[place]
        if all(part == parts[0] for part in parts):
            return parts[0]
        return self.keep_atom(("pick", self.keep(left), parts))

    def number_in(self, f):
        """The number that a form is, None of others."""
        return number_alone(self.sums[f])

    def atoms_within(self, f):
        """The rising list of all atoms in a form, those within tests and picks, too."""
        found = {}
        todo = [f]
        while todo:
            form = todo.pop()
            for atom in atoms_in(self.sums[form]):
                if atom not in found:
                    found[atom] = True
                    todo.extend(self.forms_within(atom))
        return sorted(found)

    def forms_within(self, atom):
        """The list of the forms that an atom is of."""
        what = self.atoms[atom]
        if what[0] == "leaf":
            return []
        if what[0] == "pick":
            return [what[1]] + list(what[2])
        return [what[1]]

    def leaves_in(self, f):
        """The rising list of the names of a form's leaves."""
        atoms = [self.atoms[atom] for atom in self.atoms_within(f)]
        return sorted([atom[1] for atom in atoms if atom[0] == "leaf"])

    def put(self, f, name, g):
        """A form with a leaf replaced by another form, tests and picks being made anew."""
        return self.exchanged(f, ("leaf", name), g)

    def exchanged(self, f, what, g):
        """A form with an atom, wherever it stands, replaced by another form, tests and picks being made anew.

        What only then comes to be that atom stays: it isn't looked at again.
        """
        becomes = {}
        # Rising: what stands within an atom has been made anew when the atom is come to.
        for atom in self.atoms_within(f):
            total = self.sums[g if self.atoms[atom] == what else self.made_anew(atom, becomes)]
            if total != atom_sum(atom):
                becomes[atom] = total
        return self.keep(replaced(self.sums[f], becomes))

    def made_anew(self, atom, becomes):
        """The form that an atom is by what the atoms within it become."""
        what = self.atoms[atom]
        if what[0] == "leaf":
            return self.leaf(what[1])
        total = replaced(self.sums[what[1]], becomes)
        if what[0] == "same":
            return self.same_by(total)
        if what[0] == "below":
            # The test is "0 or more", and made again of what is above 0.
            return self.below_by(joined(total, number_sum(1), 1))
        return self.pick_by(total, tuple([self.keep(replaced(self.sums[part], becomes)) for part in what[2]]))

    def worth(self, f, worths):
        """A form's worth by its leaves' worths; of picks just the picked parts are reckoned."""
        known = {}
        todo = atoms_in(self.sums[f])
        while todo:
            wanted = self.reckon_atom(todo[-1], worths, known)
            if wanted:
                todo.extend(wanted)
            else:
                todo.pop()
        return worth_by(self.sums[f], known)

    def reckon_atom(self, atom, worths, known):
        """Reckon an atom's worth into known; where others are wanted for it first, only tell these."""
        what = self.atoms[atom]
        if atom in known:
            return []
        if what[0] == "leaf":
            known[atom] = worths[what[1]]
            return []
        wanted = self.unknown_in(what[1], known)
        if wanted:
            return wanted
        worth = worth_by(self.sums[what[1]], known)
        if what[0] == "pick":
            return self.reckon_part(atom, what[2][worth % len(what[2])], known)
        known[atom] = 1 if worth == 0 or what[0] == "below" and worth > 0 else 0
        return []

    def reckon_part(self, atom, part, known):
        """The same of a pick whose picked part is known."""
        wanted = self.unknown_in(part, known)
        if not wanted:
            known[atom] = worth_by(self.sums[part], known)
        return wanted

    def unknown_in(self, f, known):
        return [atom for atom in atoms_in(self.sums[f]) if atom not in known]
