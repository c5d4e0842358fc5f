"""Runs of programs."""

from sameworth.machine import Machine


def run(program, takes, most):
    """Do at most so many steps: a tuple of the state, the list of worths told, the list of rows done."""
    machine = Machine(program, takes, most)
    state = machine.go_on()
    return (state, machine.told, machine.done)
