"""Rows of worths, solved by taking multiples of rows from one another."""

from sumstead.base.reckoning import added, divided, multiplied, opposite
from sumstead.base.worths import ONE, ZERO


def _less(row, factor, other):
    """A row less the multiple of another one."""
    if factor == ZERO:
        return row
    taken = opposite(factor)
    return [one if two == ZERO else added(one, multiplied(taken, two)) for one, two in zip(row, other)]


def reduced(row, solved):
    """A row less multiples of solved rows, with 0 at the columns of all of these."""
    for column, other in solved:
        row = _less(row, row[column], other)
    return row


def first_column(row, many):
    """The first of so many columns at which a row has another worth than 0, or None."""
    for column in range(many):
        if row[column] != ZERO:
            return column
    return None


def solved_rows(rows, many):
    """Pairs (column, row) that have the same mixtures as the rows, by the first so many columns.

    Each row has 1 at its column, and all others have 0 there.
    """
    solved = []
    for row in rows:
        row = reduced(row, solved)
        column = first_column(row, many)
        if column is not None:
            factor = divided(ONE, row[column])
            row = [multiplied(factor, one) for one in row]
            solved = [(at, _less(other, other[column], row)) for at, other in solved] + [(column, row)]
    return solved
