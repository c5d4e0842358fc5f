"""Point 15 taken word by word: a walk along all ways, of which only whether the worth is there is kept."""

from tests import oracle, slowforms


class Walk:
    """The ways of a program, of which put has more rows done on leads: a dict from (lead, block) to rows' classes."""

    def __init__(self, program, put=None):
        self.program, self.put = program, {} if put is None else put
        self.owners, self.above = oracle.owners_in(program), oracle.above(program)
        self.made = slowforms.parted(program)

    def home(self, row):
        blocks = [self.owners[m] if kind == 1 else 0 for kind, m in slowforms.leaves_in(self.made[row])] or [0]
        return next(home for home in blocks if all(block in self.above[home] for block in blocks))

    def alike(self, row):
        return [other for other in range(len(self.made)) if self.made[other] == self.made[row]]

    def states(self, row):
        """All pairs (block, whether the worth is there) with which ways come to blocks, the coming being done."""
        home, alike = self.home(row), self.alike(row)
        seen, todo = set(), [(0, False)]
        while todo:
            block, there = todo.pop()
            if block == home:
                there = False
            if (block, there) in seen:
                continue
            seen.add((block, there))
            there = there or any(self.owners[other] == block for other in alike)
            for named in oracle.named_by(self.program[block][1]):
                made = any(other in alike for other in self.put.get((block, named), ()))
                todo.append((named, there or made))
        return seen

    def there_at(self, row):
        own = self.owners[row]
        ahead = any(other < row and self.owners[other] == own for other in self.alike(row))
        return ahead or all(there for block, there in self.states(row) if block == own)

    def there_behind(self, row):
        states, doers = self.states(row), {self.owners[other] for other in self.alike(row)}
        return [
            block for block in range(len(self.program))
            if block in doers or all(there for other, there in states if other == block)
        ]


def there_at(program):
    walk = Walk(program)
    worths = oracle.with_worth(program)
    return [walk.there_at(row) if row in worths else None for row in range(len(walk.made))]
