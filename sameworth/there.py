"""Where each worth is there on all ways. A worth is known by its number, the least row that has it."""

from sameworth.blocks import leads_of, owners_of
from sameworth.numbering import Numbering


class There:
    """The homes of a program's worths, and at which blocks' ends each one is there on all ways.

    A worth may be put in on leads, pairs of a block and one behind it: it's there behind these, too.
    """

    def __init__(self, program):
        numbering = Numbering(program)
        self.leads = leads_of(program)
        self.owners = owners_of(program)
        self.leasts = numbering.numbers()
        self.homes = {}
        self.puts = {}
        self.ends = {}
        for least in sorted({number for number in self.leasts if number is not None}):
            self.homes[least] = home_by(numbering.leaves(least), self.owners)
            self.put_in(least, [])

    def put_in(self, least, puts):
        """Have a worth put in on these leads, and on no others."""
        doers = [owner for owner, number in zip(self.owners, self.leasts) if number == least]
        self.puts[least] = puts
        self.ends[least] = there_at_ends(self.leads, self.homes[least], doers, puts)

    def at_begin(self, least, block):
        """Whether a worth is there where a block is come to, on all ways."""
        return is_brought(self.leads, self.homes[least], self.puts[least], self.ends[least], block)

    def at_row(self, row):
        """Whether a row's worth is there just ahead of it, on all ways."""
        least = self.leasts[row]
        block = self.owners[row]
        ahead = [other for other in range(row) if self.owners[other] == block and self.leasts[other] == least]
        return len(ahead) > 0 or self.at_begin(least, block)


def home_by(leaves, owners):
    """The block where a worth of these leaves can be reckoned first."""
    # The leaves' blocks lie on all ways to one row, so each lies on all ways to the greater ones.
    return max([owners[at] if kind == 1 else 0 for kind, at in leaves], default=0)


def is_brought(leads, home, puts, ends, block):
    """Whether a worth is there where a block is come to, by the truths of whether it is at blocks' ends."""
    if block == home or not leads[block]:
        return False
    return all(ends[lead] or (lead, block) in puts for lead in leads[block])


def there_at_ends(leads, home, doers, puts):
    """The list of whether at each block's end a worth is there on all ways, doers being the blocks that make it."""
    # All are taken to have it until a way is found on which it's not there, so that rounds hold it.
    ends = [True] * len(leads)
    changed = True
    while changed:
        told = [block in doers or is_brought(leads, home, puts, ends, block) for block in range(len(leads))]
        changed = told != ends
        ends = told
    return ends
