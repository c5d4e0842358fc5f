"""Right programs drawn by a fixed rule, and the same ones in another order."""

from random import Random

from tests import oracle

TWO = ("sum", "sum", "less", "times", "same", "below")


def drawn_ends(rng, many):
    """For each block the blocks that its end names; each block but 0 has a lead with a lesser number."""
    named = [[] for block in range(many)]
    for block in range(1, many):
        free = [lead for lead in range(block) if len(named[lead]) < 2]
        named[rng.choice(free)].append(block)
    for blocks in named:
        if many > 1 and len(blocks) < 2 and rng.random() < 0.6:
            other = rng.randrange(1, many)
            if other not in blocks:
                blocks.append(other)
        rng.shuffle(blocks)
    return named


class Drawing:
    """One program being drawn: how many rows each block has is fixed first, so that meets can name later ones."""

    def __init__(self, rng, named, sizes, rooms, times, tested):
        self.rng, self.rooms, self.times, self.tested = rng, rooms, times, tested
        graph = [([], [("end",), ("go", *blocks), ("if", 0, *blocks)][len(blocks)]) for blocks in named]
        self.graph, self.leads, self.above = graph, oracle.leads_of(graph), oracle.above(graph)
        self.meets = [rng.randrange(4) if len(leads) > 1 else 0 for leads in self.leads]
        self.owner = []
        for block in range(len(named)):
            self.owner += [block] * (self.meets[block] + sizes[block])
        self.rows = [None] * len(self.owner)

    def standing(self, block, below):
        return [
            row for row in range(min(below, len(self.rows)))
            if self.owner[row] in self.above[block] and (self.rows[row] or ("meet",))[0] not in ("lay", "tell")
        ]

    def plain_row(self, block, number):
        rng, fine = self.rng, self.standing(block, number)
        kind = rng.random()
        if not fine or kind < 0.12:
            return ("take", rng.randrange(3))
        if kind < 0.25:
            return ("num", rng.choice((0, 1, 1, 2, 2, -1, 3, 4)))
        if kind < 0.35:
            return ("tell", rng.choice(fine))
        if kind < 0.45:
            return ("pick", rng.choice(fine), tuple(rng.choice(fine) for k in range(rng.randrange(1, 4))))
        if kind < 0.55:
            twins = [self.rows[row] for row in fine if self.rows[row] and self.rows[row][0] != "times"]
            if twins:
                return rng.choice(twins)
        if self.rooms and kind < 0.75:
            rooms = tuple(rng.sample(range(6), rng.randrange(1, 4)))
            return rng.choice((("look", rooms, rng.choice(fine)), ("lay", rooms, rng.choice(fine), rng.choice(fine))))
        word = rng.choice(TWO)
        if word == "times":
            self.times -= 1
        return (word if self.times >= 0 else "sum", rng.choice(fine), rng.choice(fine))

    def meet_row(self, number):
        rng, block = self.rng, self.owner[number]
        choices = [self.standing(lead, 10 ** 9) for lead in self.leads[block]]
        everywhere = [row for row in choices[0] if all(row in fine for fine in choices)]
        kind, begin = rng.random(), number
        while begin and self.owner[begin - 1] == block:
            begin -= 1
        if kind < 0.3 and begin < number:
            return self.rows[rng.randrange(begin, number)]
        first = rng.choice(choices[0])
        parts = [first]
        for fine in choices[1:]:
            same_rows = [row for row in fine if row == first or row == number or self.rows[row] == self.rows[first]]
            parts.append(rng.choice(same_rows) if same_rows and rng.random() < 0.6 else rng.choice(fine))
        if kind < 0.45 and everywhere:
            return ("meet", (rng.choice(everywhere),) * len(choices))
        return ("meet", tuple(parts))

    def program(self):
        begin, blocks = 0, []
        ahead = {number for number in range(len(self.rows)) if self.is_meet_place(number)}
        for number, block in enumerate(self.owner):
            if number not in ahead:
                self.rows[number] = ("take", 0) if number == 0 else self.plain_row(block, number)
        for number in sorted(ahead):
            self.rows[number] = self.meet_row(number)
        for block, (none, end) in enumerate(self.graph):
            size = self.owner.count(block)
            rows, begin = self.rows[begin:begin + size], begin + size
            if end[0] == "if":
                end = ("if", self.rng.choice(self.testable(block, begin)), *end[2:])
            blocks.append((rows, end))
        return blocks

    def testable(self, block, begin):
        """The rows that an end may name; where tests are wanted, those of the rows that come nearest to them."""
        fine = self.standing(block, begin)
        if self.tested:
            for words in (("same", "below"), ("sum", "less")):
                nearer = [row for row in fine if self.rows[row][0] in words]
                if nearer and self.rng.random() < 0.8:
                    return nearer
        return fine

    def is_meet_place(self, number):
        block = self.owner[number]
        return number - self.owner.index(block) < self.meets[block]


def programs(seed, count, most_blocks=5, most_rows=4, rooms=False, times=2, tested=False):
    """So many right programs; without rooms they're plain; tested: ends mostly name tests."""
    rng = Random(seed)
    for k in range(count):
        many = rng.randrange(1, most_blocks + 1)
        sizes = [rng.randrange(most_rows + 1) for block in range(many)]
        sizes[0] += 2
        yield Drawing(rng, drawn_ends(rng, many), sizes, rooms, times, tested).program()


def takes(seed, count):
    rng = Random(seed)
    return [[rng.randrange(-4, 5) for place in range(6)] for k in range(count)]


def block_order(rng, program):
    """The blocks in another order in which each but 0 has a lead ahead of it."""
    leads, order = oracle.leads_of(program), [0]
    while len(order) < len(program):
        ready = [b for b in range(1, len(program)) if b not in order and any(lead in order for lead in leads[b])]
        order.append(rng.choice(ready))
    return order


def row_order(rng, rows, begin):
    """A block's rows, numbered from begin on, in another order: meets ahead, each row behind those it names."""
    meets = [at for at, row in enumerate(rows) if row[0] == "meet"]
    rng.shuffle(meets)
    order, left = meets, [at for at, row in enumerate(rows) if row[0] != "meet"]
    while left:
        ready = [at for at in left if not any(begin + other in names_of(rows[at]) for other in left)]
        order.append(rng.choice(ready))
        left.remove(order[-1])
    return order


def names_of(row):
    names = []
    for part, kind in zip(row[1:], oracle.ROW_KINDS[row[0]]):
        names += [part] if kind == "r" else part if kind == "P" else []
    return names


def renamed(row, to):
    parts = []
    for part, kind in zip(row[1:], oracle.ROW_KINDS[row[0]]):
        parts.append(to[part] if kind == "r" else tuple(to[x] for x in part) if kind == "P" else part)
    return (row[0], *parts)


def reordered(rng, program, rows_too=True):
    """The same program written down in another order, of blocks alone or of rows, too; the list of rows' new numbers."""
    blocks, new_rows, begins, begin = block_order(rng, program), [], [], 0
    for rows, end in program:
        begins.append(begin)
        begin += len(rows)
    orders = [list(range(len(rows))) for rows, end in program]
    if rows_too:
        orders = [row_order(rng, rows, begins[block]) for block, (rows, end) in enumerate(program)]
    for block in blocks:
        new_rows += [begins[block] + at for at in orders[block]]
    to, leads = {old: new for new, old in enumerate(new_rows)}, oracle.leads_of(program)
    made = []
    for block in blocks:
        rows, end = program[block]
        written = []
        for at in orders[block]:
            row = rows[at]
            if row[0] == "meet":
                by_lead = sorted(zip([blocks.index(lead) for lead in leads[block]], row[1]))
                row = ("meet", tuple(part for lead, part in by_lead))
            written.append(renamed(row, to))
        named = [blocks.index(other) for other in oracle.named_by(end)]
        made.append((written, ("if", to[end[1]], *named) if end[0] == "if" else (end[0], *named)))
    return made, [to[row] for row in range(len(to))]
