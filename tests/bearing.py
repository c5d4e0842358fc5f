"""What points 16 and 17 say of a program made anew and its bearers, asked of any."""

from sameworth.counts import reckoned, times_done, way_of
from sameworth.numbering import numbers_of
from sameworth.programs import is_plain
from sameworth.runs import run
from tests import drawn, oracle
from tests.slowputs import RECKONINGS


def blocks_behind(program, made, leads):
    """For each block of a program the one of what is made, and the new blocks by their leads."""
    found, new, todo = {0: 0}, {}, [0]
    while todo:
        block = todo.pop()
        old, end = oracle.named_by(program[block][1]), made[found[block]][1]
        for named, now in zip(old, oracle.named_by(end), strict=True):
            if (block, named) in leads:
                new[block, named] = now
                assert made[now][1][0] == "go"
                now = made[now][1][1]
            if named not in found:
                found[named] = now
                todo.append(named)
            assert found[named] == now
    return found, new


class Made:
    """A program, what is made of it, its bearers, the reckonings that must be gone, and the leads with new blocks."""

    def __init__(self, case, program, told, gone, leads=()):
        self.case, self.program, self.gone = case, program, gone
        self.made, self.bearers = told
        self.rows, self.made_rows = oracle.rows_in(program), oracle.rows_in(self.made)
        self.owners, self.made_owners = oracle.owners_in(program), oracle.owners_in(self.made)
        self.blocks, self.new = blocks_behind(program, self.made, leads)

    def same(self, one, other):
        self.case.assertEqual(one, other, (self.program, self.made, self.bearers))

    def check(self):
        self.case.assertIs(type(self.made), list)
        self.case.assertIs(type(self.bearers), list)
        self.case.assertTrue(oracle.is_program(self.made) and is_plain(self.made), (self.program, self.made))
        self.same(len(self.bearers), len(self.rows))
        self.same(len(self.made), len(self.program) + len(self.new))
        for block in range(len(self.program)):
            self.check_block(block)
        for row, bearer in enumerate(self.bearers):
            self.check_bearer(row, bearer)
        self.check_alike()

    def check_block(self, block):
        end, made_end = self.program[block][1], self.made[self.blocks[block]][1]
        self.same(made_end[0], end[0])
        if end[0] == "if":
            self.same(made_end[1], self.bearers[end[1]])
        inside = [row for row in range(len(self.rows)) if self.owners[row] == block and row not in self.gone]
        wanted = [drawn.renamed(self.rows[row], self.bearers) for row in inside if self.rows[row][0] != "meet"]
        self.same([row for row in self.made[self.blocks[block]][0] if row[0] != "meet"], wanted)

    def check_bearer(self, row, bearer):
        home = self.blocks[self.owners[row]]
        if row in self.gone:
            self.case.assertIn(self.made_owners[bearer], oracle.above(self.made)[home])
            self.case.assertNotEqual(self.rows[row][0], "tell")
        else:
            self.same(self.made_rows[bearer], drawn.renamed(self.rows[row], self.bearers))
            self.same(self.made_owners[bearer], home)
            self.same(sum(self.bearers[other] == bearer for other in range(row) if other not in self.gone), 0)

    def check_alike(self):
        numbers, made_numbers = numbers_of(self.program), numbers_of(self.made)
        pairs = {(numbers[row], made_numbers[self.bearers[row]]) for row in oracle.with_worth(self.program)}
        self.same(len(pairs), len({one for one, other in pairs}))
        self.same(len(pairs), len({other for one, other in pairs}))

    def check_run(self, takes, most=150):
        """Whether the program's run ended, and so all that is said of such runs was asked."""
        state, told, done = run(self.program, takes, most)
        if state != "ended":
            return False
        made_state, made_told, made_done = run(self.made, takes, 22000)
        self.same((made_state, made_told), ("ended", told))
        many, made_many = times_done(self.program, done), times_done(self.made, made_done)
        for row, bearer in enumerate(self.bearers):
            if row not in self.gone:
                self.same(made_many[bearer], many[row])
        self.check_worths(done, way_of(self.program, takes, most), made_done, way_of(self.made, takes, 22000))
        left = sum(row not in self.gone and self.rows[row][0] in RECKONINGS for row, worth in done)
        way = way_of(self.program, takes, most)
        put = sum(
            sum(row[0] in RECKONINGS for row in self.made[self.new[lead]][0])
            for lead in zip(way, way[1:]) if lead in self.new
        )
        self.same(reckoned(self.made, made_done), left + put)
        return True

    def check_worths(self, done, way, made_done, made_way):
        """Block by block: as a row is done, its bearer's last worth is its own."""
        last, old, made_old = {}, 0, 0
        made_way = list(made_way)
        for block in way:
            while made_way[0] != self.blocks[block]:
                new = made_way.pop(0)
                self.case.assertIn(new, self.new.values())
                size = len(self.made[new][0])
                last.update(made_done[made_old:made_old + size])
                made_old += size
            size, made_size = len(self.program[block][0]), len(self.made[made_way.pop(0)][0])
            now, ahead = done[old:old + size], made_done[made_old:made_old + made_size]
            old, made_old = old + size, made_old + made_size
            while ahead and self.made_rows[ahead[0][0]][0] == "meet":
                last.update([ahead.pop(0)])
            for row, worth in now:
                if row not in self.gone and self.rows[row][0] != "meet":
                    self.same(ahead[0][0], self.bearers[row])
                    last.update([ahead.pop(0)])
                self.same(last[self.bearers[row]], worth)
            self.same(ahead, [])
        self.same(made_way, [])
