"""Rows of heirs whose beginnings keep within bounds, counted and numbered.

Bounds are a list of pairs, one for each beginning, (0, 0) for that of no turns
ahead of all: how many of its turns are Ann's at the least and at the most. The
rows are numbered from 0, ascending by comparison.
"""

from heirturns.errors import NoNumber


def how_many_rows(bounds):
    """How many rows keep within these bounds."""
    return _ways_on(bounds)[0][0]


def nth_row(bounds, number):
    """The row with this number; raises NoNumber(number)."""
    ways = _ways_on(bounds)
    if not 0 <= number < ways[0][0]:
        raise NoNumber(number)
    row = []
    own = 0
    left = number
    for behind in ways[1:]:
        many = behind.get(own + 1, 0)
        if left < many:
            row.append("a")
            own = own + 1
        else:
            row.append("b")
            left = left - many
    return tuple(row)


def number_of_row(bounds, row):
    """The number of this row; None if it does not keep within the bounds."""
    number = 0
    own = 0
    for heir, behind in zip(row, _ways_on(bounds)[1:]):
        if heir == "a":
            own = own + 1
        else:
            number = number + behind.get(own + 1, 0)
        if own not in behind:
            return None
    return number


def _ways_on(bounds):
    """For each beginning, how many ways there are to go on by how many turns of hers it has."""
    low, high = bounds[-1]
    ways = [{own: 1 for own in range(low, high + 1)}]
    for low, high in bounds[-2::-1]:
        behind = ways[-1]
        ways.append({own: behind.get(own, 0) + behind.get(own + 1, 0) for own in range(low, high + 1)})
    return ways[::-1]
