"""Which row has a worth at a place of a program that is being made anew.

A place is ("row", block, at), the row at that place of a block so far, or ("join", block, worth), a
meet that comes in there as its leads bring that worth by unlike rows.
"""


class Joins:
    """The meets that come in; worths has for each block the list of its rows' worths so far, None of those without."""

    def __init__(self, leads, worths):
        self.leads = leads
        self.worths = worths
        self.brought = {}
        self.instead = {}

    def found(self, worth, block, at):
        """The place of the row that has a worth ahead of the row at a place of a block; it's there on all ways."""
        while True:
            ahead = [place for place in range(at) if self.worths[block][place] == worth]
            if ahead:
                return ("row", block, ahead[-1])
            if len(self.leads[block]) > 1:
                return self.join_at(block, worth)
            block = self.leads[block][0]
            at = len(self.worths[block])

    def found_behind(self, worth, block):
        """The same at a block's end."""
        return self.found(worth, block, len(self.worths[block]))

    def join_at(self, block, worth):
        join = ("join", block, worth)
        self.brought.setdefault(join, None)
        return join

    def settle(self):
        """Find what each join is brought, and leave out those that are brought one row only."""
        while self.fill_joins():
            pass
        while self.leave_out_joins():
            pass

    def fill_joins(self):
        """Find what the joins so far are brought, which may ask for more joins; tells whether something was found."""
        bare = [join for join, places in self.brought.items() if places is None]
        for join in bare:
            word, block, worth = join
            self.brought[join] = [self.found_behind(worth, lead) for lead in self.leads[block]]
        return len(bare) > 0

    def leave_out_joins(self):
        """Leave out each join that is brought just one row, besides itself; tells whether there was one."""
        many = len(self.instead)
        for join in list(self.brought):
            others = [place for place in self.brought[join] if place != join]
            if all(place == others[0] for place in others):
                self.leave_out(join, others[0])
        return len(self.instead) > many

    def leave_out(self, join, instead):
        self.instead[join] = instead
        del self.brought[join]
        for other in list(self.brought):
            self.brought[other] = [instead if place == join else place for place in self.brought[other]]

    def settled(self, place):
        """The place that has the worth in the place of a join that is left out; of others itself."""
        while place in self.instead:
            place = self.instead[place]
        return place

    def joins_in(self, block):
        """The list of the joins that stay in a block, rising by their worths."""
        return sorted([join for join in self.brought if join[1] == block])
