"""Where a head can be put in: its joints, and the sets of them that let it."""

from sameworth.rows import blocks_named, is_reckoning, rows_named


def blocks_that_end(program):
    """The list of the blocks from which a way comes to an end."""
    found = [block for block, (rows, end) in enumerate(program) if end[0] == "end"]
    grown = True
    while grown:
        more = []
        for block, (rows, end) in enumerate(program):
            if block not in found and any(other in found for other in blocks_named(end)):
                more.append(block)
        found.extend(more)
        grown = len(more) > 0
    return found


class Joints:
    """The joints of a head. Sets of joints are lists here.

    there tells where the worths of lesser rows are there, what was put in of them counted; ending is
    the list of the blocks from which a way comes to an end.
    """

    def __init__(self, program, rows, there, ways, ending, head):
        self.program = program
        self.rows = rows
        self.there = there
        self.ways = ways
        self.ending = ending
        self.head = head
        self.home = there.homes[head]
        self.joints = [block for block in range(len(program)) if self.is_joint(block)]
        self.firsts = {}
        for row, least in enumerate(there.leasts):
            if least == head:
                self.firsts.setdefault(there.owners[row], row)

    def is_joint(self, block):
        return block != self.home and len(self.there.leads[block]) > 1 and self.ways.lies(self.home, block)

    def leads_put(self):
        """The rising list of the leads on which the head is put in."""
        chosen = self.grounded(self.widest())
        return sorted([
            (lead, joint) for joint in chosen for lead in self.there.leads[joint] if not self.is_held(chosen, lead)
        ])

    def widest(self):
        """The widest set whose leads all hold the head, or can have it made for it's wanted."""
        chosen = []
        left = self.joints
        while left != chosen:
            chosen = left
            left = [joint for joint in chosen if self.is_fit(chosen, joint)]
        return chosen

    def is_fit(self, chosen, joint):
        bare = [lead for lead in self.there.leads[joint] if not self.is_held(chosen, lead)]
        if not all(self.can_make(lead, joint) for lead in bare):
            return False
        return len(bare) == 0 or self.is_wanted(chosen, joint)

    def grounded(self, joints):
        """The least set of these joints that have a lead at whose end the head is held for it."""
        chosen = [None]
        found = []
        while found != chosen:
            chosen = found
            found = [joint for joint in joints if any(self.is_held(chosen, lead) for lead in self.there.leads[joint])]
        return chosen

    def is_held(self, chosen, block):
        """Whether for a set the head is held at a block's end."""
        while block not in self.firsts:
            if block in self.joints:
                return block in chosen
            leads = self.there.leads[block]
            if block == self.home or len(leads) != 1:
                return False
            block = leads[0]
        return True

    def is_wanted(self, chosen, joint):
        """Whether on each way on from a joint that comes to an end a reckoning of the head's worth comes first."""
        seen = {}
        todo = [joint]
        while todo:
            block = todo.pop()
            if block in seen or block not in self.ending:
                continue
            seen[block] = True
            if block == self.home or block in self.joints and block not in chosen:
                return False
            if block in self.firsts:
                if not is_reckoning(self.rows[self.firsts[block]]):
                    return False
            elif self.program[block][1][0] == "end":
                return False
            else:
                todo.extend(blocks_named(self.program[block][1]))
        return True

    def can_make(self, lead, joint):
        """Whether the head can be made on a lead, by what it names."""
        return all(self.can_name(name, (lead, joint)) for name in rows_named(self.rows[self.head]))

    def can_name(self, name, lead):
        least = self.there.leasts[name]
        if not self.ways.lies(self.there.homes[least], self.home):
            return False
        if self.rows[name][0] in ("take", "num"):
            return True
        return self.there.ends[least][lead[0]] or lead in self.there.puts[least]
