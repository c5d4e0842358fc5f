"""Which blocks lie on all ways to others, as a tree.

Each block but 0 has a lead with a lesser number, so there is a rising way to it: what lies on
all ways to it is on that one, and has a lesser number. So the walks below climb from the greater
number, and no order of their own has to be made.
"""


class Ways:
    """The tree of nearest blocks, kept so that one comparison answers for a whole branch."""

    def __init__(self, leads):
        nearest = nearest_above(leads)
        self.span = branch_sizes(nearest)
        self.first = branch_places(nearest, self.span)

    def lies(self, block, other):
        """Whether a block lies on all ways to another one, or to itself."""
        return self.first[block] <= self.first[other] < self.first[block] + self.span[block]


def nearest_above(leads):
    """For each block the last other one that lies on all ways to it; 0 for block 0."""
    nearest = [0]
    for block in range(1, len(leads)):
        lesser = [lead for lead in leads[block] if lead < block]
        nearest.append(common_above(nearest, lesser))
    # Greater leads were left out so far, as nothing was known of them: they only take away.
    while brought_nearer(nearest, leads):
        pass
    return nearest


def brought_nearer(nearest, leads):
    """Look at all leads of each block once, in place; tells whether something changed."""
    changed = False
    for block in range(1, len(leads)):
        found = common_above(nearest, leads[block])
        if found != nearest[block]:
            nearest[block] = found
            changed = True
    return changed


def common_above(nearest, blocks):
    """The lowest place in the tree from which all of the blocks hang."""
    common = blocks[0]
    for block in blocks[1:]:
        other = block
        while common != other:
            if common > other:
                common = nearest[common]
            else:
                other = nearest[other]
    return common


def branch_sizes(nearest):
    """For each block how many blocks hang from it, itself counted."""
    sizes = [1] * len(nearest)
    for block in range(len(nearest) - 1, 0, -1):
        sizes[nearest[block]] += sizes[block]
    return sizes


def branch_places(nearest, sizes):
    """For each block its place in an order in which each branch stands together, its top first."""
    places = [0] * len(nearest)
    free = [1] * len(nearest)
    for block in range(1, len(nearest)):
        top = nearest[block]
        places[block] = free[top]
        free[top] += sizes[block]
        free[block] = places[block] + 1
    return places
