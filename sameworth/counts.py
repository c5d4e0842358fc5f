"""What is counted along runs, and the ways they go."""

from sameworth.blocks import rows_of
from sameworth.machine import Machine
from sameworth.rows import is_reckoning


def reckoned(program, done):
    """How many of the done rows are reckonings."""
    rows = rows_of(program)
    return len([row for row, worth in done if is_reckoning(rows[row])])


def times_done(program, done):
    """The list of how often each row is among the done ones."""
    many = [0] * len(rows_of(program))
    for row, worth in done:
        many[row] += 1
    return many


def way_of(program, takes, most):
    """The list of the blocks that a run of at most so many steps comes to."""
    machine = Machine(program, takes, most)
    machine.go_on()
    return machine.way
