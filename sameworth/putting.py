"""Reckonings put in on leads, so that more can be left out."""

from sameworth.bearing import made_anew
from sameworth.blocks import rows_of
from sameworth.joints import Joints, blocks_that_end
from sameworth.rows import is_reckoning, rows_named
from sameworth.there import There
from sameworth.ways import Ways


def put_ins(program):
    """The list of all (head, lead, block): that head is put in on the lead from the one to the other."""
    return find_puts(program, There(program))


def moved(program):
    """A tuple of the program with heads put in and what is there taken away, and the bearers of the rows' worths."""
    there = There(program)
    copies = copies_for(rows_of(program), there, find_puts(program, there))
    # A num that is copied there is a row alike with others, too.
    for lead, copied in copies.items():
        for row in copied:
            least = there.leasts[row]
            if lead not in there.puts[least]:
                there.put_in(least, there.puts[least] + [lead])
    return made_anew(program, there, copies)


def find_puts(program, there):
    """The same list; there is told of each."""
    rows = rows_of(program)
    ways = Ways(there.leads)
    ending = blocks_that_end(program)
    found = []
    for head, row in enumerate(rows):
        if there.leasts[head] == head and is_reckoning(row):
            leads = Joints(program, rows, there, ways, ending, head).leads_put()
            there.put_in(head, leads)
            found.extend([(head, lead, block) for lead, block in leads])
    return found


def copies_for(rows, there, puts):
    """A dict from each lead to the list of the rows done there: heads, and ahead of them takes and nums they name."""
    copies = {}
    for head, lead, block in puts:
        copied = copies.setdefault((lead, block), [])
        known = [there.leasts[row] for row in copied]
        for name in rows_named(rows[head]):
            least = there.leasts[name]
            if not there.ends[least][lead] and least not in known:
                copied.append(name)
                known.append(least)
        copied.append(head)
    return copies
