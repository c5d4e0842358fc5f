"""Runs on which two rows differ."""

from sameworth.blocks import owners_of
from sameworth.machine import Machine
from sameworth.numbering import Numbering
from sameworth.shapes import is_number

MOST_TRIES = 60
MOST_STEPS = 300


def takes_by(k):
    """The list of the six numbers that the k-th try hands in."""
    return [(k * (i + 3) + k // 7 * (5 * i + 1) + i * i) % 13 - 6 for i in range(6)]


def differing(program, one, other, tries):
    """The first of so many tries in which two rows are seen to differ, and behind how many rows, or ("open",)."""
    drops = drops_of(program, (one, other))
    for k in range(tries):
        found = differing_behind(program, drops, k)
        if found:
            return ("run", k, found[0])
    return ("open",)


def shows_differing(program, one, other, told):
    """Whether a thing is ("open",), or tells a try and how many rows, behind which two rows differ."""
    if told == ("open",):
        return True
    if not isinstance(told, tuple) or len(told) != 3 or told[0] != "run":
        return False
    word, k, many = told
    if not is_number(k) or not is_number(many) or not 0 <= k < MOST_TRIES:
        return False
    return many in differing_behind(program, drops_of(program, (one, other)), k)


def drops_of(program, rows):
    """A dict from each of the rows to the blocks at whose coming it's fresh no more."""
    numbering = Numbering(program)
    owners = owners_of(program)
    return {row: [owners[at] for kind, at in numbering.leaves(row) if kind == 1] for row in rows}


def differing_behind(program, drops, k):
    """The rising list of how many rows are done where the rows of drops are fresh, with unlike last worths."""
    machine = Machine(program, takes_by(k), MOST_STEPS)
    machine.go_on()
    fresh = {}
    found = []
    many = 0
    for block in machine.way:
        fresh = {row: worth for row, worth in fresh.items() if block not in drops[row]}
        # The last block's rows may not all be done.
        for row, worth in machine.done[many:many + len(program[block][0])]:
            many += 1
            if row in drops:
                fresh[row] = worth
            if len(set(list(fresh.values()))) > 1:
                found.append(many)
    return found
