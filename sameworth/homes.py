"""Homes of rows' worths, and where these are there."""

from sameworth.blocks import owners_of
from sameworth.numbering import Numbering
from sameworth.there import There, home_by


def home_of(program, row):
    """The block where a row's worth can be reckoned first."""
    return home_by(Numbering(program).leaves(row), owners_of(program))


def there_at(program):
    """The list, for each row, of whether its worth is there on all ways to it, None of rows without a worth."""
    there = There(program)
    return [None if least is None else there.at_row(row) for row, least in enumerate(there.leasts)]


def there_behind(program, row):
    """The rising list of the blocks at whose end a row's worth is there on all ways."""
    there = There(program)
    return [block for block, truth in enumerate(there.ends[there.leasts[row]]) if truth]
