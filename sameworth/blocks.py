"""Blocks of a program: their leads, what lies on all ways to them, and where rows stand."""

from sameworth.rows import blocks_named
from sameworth.ways import Ways, nearest_above


def leads_of(program):
    """The list of each block's rising list of leads."""
    leads = [[] for block in program]
    for block, (rows, end) in enumerate(program):
        for named in blocks_named(end):
            leads[named].append(block)
    return leads


def above(program):
    """The list, for each block, of the rising list of the blocks on all ways to it."""
    lists = [[0]]
    nearest = nearest_above(leads_of(program))
    for block in range(1, len(program)):
        lists.append(lists[nearest[block]] + [block])
    return lists


def rows_of(program):
    """The list of all rows, by their numbers."""
    return [row for rows, end in program for row in rows]


def owners_of(program):
    """The list, for each row, of its block's number."""
    return [block for block, (rows, end) in enumerate(program) for row in rows]


def block_of(program, row):
    """The number of a row's block."""
    return owners_of(program)[row]


def stands(program, row, block):
    """Whether a row stands at a block's end."""
    return Ways(leads_of(program)).lies(block_of(program, row), block)
