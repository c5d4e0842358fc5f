"""Point 17 taken word by word: all sets of joints are gone through, and all ways on that need be looked at."""

from itertools import chain, combinations

from tests import oracle
from tests.slowthere import Walk

RECKONINGS = ("sum", "less", "times", "same", "below", "pick", "look")


def subsets(things):
    return [set(some) for some in chain.from_iterable(combinations(things, k) for k in range(len(things) + 1))]


def rows_named(row):
    named = []
    for part, kind in zip(row[1:], oracle.ROW_KINDS[row[0]]):
        named += [part] if kind == "r" else list(part) if kind == "P" else []
    return named


def ways_on(program, block, times=2):
    """All ways on from a block that come to an end and come to no block more often than so many times.

    What is asked of all ways fails on one of these if on any: it's a way to where it fails, without
    rounds, and one from there to an end, without rounds.
    """
    def further(way):
        if program[way[-1]][1][0] == "end":
            yield way
        for named in oracle.named_by(program[way[-1]][1]):
            if way.count(named) < times:
                yield from further(way + [named])
    return list(further([block]))


class Head:
    """A head n with the walk in which lesser heads are put in."""

    def __init__(self, program, walk, n):
        self.program, self.walk, self.n = program, walk, n
        self.rows, self.leads = oracle.rows_in(program), oracle.leads_of(program)
        self.home, self.alike = walk.home(n), walk.alike(n)
        self.behind_home = [block for block in range(len(program)) if self.home in walk.above[block]]
        self.joints = [b for b in self.behind_home if b != self.home and len(self.leads[b]) > 1]
        self.on = {joint: ways_on(program, joint) for joint in self.joints}

    def can_make(self, lead, block):
        for name in rows_named(self.rows[self.n]):
            if self.walk.home(name) not in self.walk.above[self.home]:
                return False
            is_there = lead in self.walk.there_behind(name)
            is_put = any(other in self.walk.alike(name) for other in self.walk.put.get((lead, block), ()))
            if self.rows[name][0] not in ("take", "num") and not is_there and not is_put:
                return False
        return True

    def held(self, chosen, block):
        if any(self.walk.owners[row] == block for row in self.alike):
            return True
        if block in self.joints:
            return block in chosen
        if block != self.home and len(self.leads[block]) == 1:
            return self.held(chosen, self.leads[block][0])
        return False

    def first_in(self, block):
        return min((row for row in self.alike if self.walk.owners[row] == block), default=None)

    def is_fine_way(self, chosen, way):
        for at, block in enumerate(way):
            if at and (block == self.home or block in self.joints and block not in chosen):
                return False
            if self.first_in(block) is not None:
                return self.rows[self.first_in(block)][0] in RECKONINGS
        return False

    def wanted(self, chosen, joint):
        return all(self.is_fine_way(chosen, way) for way in self.on[joint])

    def is_fit(self, chosen):
        return all(
            self.held(chosen, lead) or self.wanted(chosen, joint) and self.can_make(lead, joint)
            for joint in chosen for lead in self.leads[joint]
        )

    def put_leads(self):
        fit = [chosen for chosen in subsets(self.joints) if self.is_fit(chosen)]
        widest = max(fit, key=len)
        assert all(chosen <= widest for chosen in fit)
        closed = [
            chosen for chosen in subsets(sorted(widest))
            if chosen == {j for j in widest if any(self.held(chosen, lead) for lead in self.leads[j])}
        ]
        least = min(closed, key=len)
        assert all(least <= chosen for chosen in closed)
        return sorted(
            (lead, joint) for joint in least for lead in self.leads[joint] if not self.held(least, lead)
        )


def heads(program):
    """Each head, with what is put in of the lesser ones."""
    put, rows = {}, oracle.rows_in(program)
    walk = Walk(program, put)
    for n in oracle.with_worth(program):
        if rows[n][0] in RECKONINGS and min(walk.alike(n)) == n:
            head = Head(program, walk, n)
            yield head
            for lead in head.put_leads():
                put.setdefault(lead, []).append(n)


def put_ins(program):
    return [(head.n, *lead) for head in heads(program) for lead in head.put_leads()]
