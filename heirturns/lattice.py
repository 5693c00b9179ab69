"""Rows of turns that stand above and below one another, and those between."""

from math import comb

from heirturns.lead import never_worse, places_sum
from heirturns.rows import how_many_rows, nth_row, number_of_row
from heirturns.turns import Turns, ahead, check_size, corners, exchanged, handed, heirs, swapped, turns_of


def is_above(one, other):
    """Whether one stands above other; raises OtherThings()."""
    return never_worse(one, other)


def is_between(one, other, third):
    """Whether one stands above third, and third above other; raises OtherThings()."""
    check_size(one, other)
    return is_above(one, third) and is_above(third, other)


def above_both(one, other):
    """The least Turns above both; raises OtherThings()."""
    check_size(one, other)
    found = []
    ends = corners(one, other)
    for begin, end in zip(ends, ends[1:]):
        found = found + _higher_runs(one, other, begin, end)
    return Turns(found)


def _higher_runs(one, other, begin, end):
    """The runs of the higher one of both from one corner to the next."""
    many = end - begin
    if one[end] == other[end]:
        return [(one[end], many)]
    less = ahead(other, begin) - ahead(one, begin)
    behind = less if one[end] == "a" else -less
    # The one with turns of hers here is the higher one when it has made up for what it is behind.
    waits = min(max(behind, 0), many)
    return _runs_of("b", waits) + _runs_of("a", many - waits)


def _runs_of(heir, many):
    return [(heir, many)] if many > 0 else []


def below_both(one, other):
    """The greatest Turns below both; raises OtherThings()."""
    return swapped(above_both(swapped(one), swapped(other)))


def height(turns):
    """The sum of the numbers of her turns in all beginnings."""
    # Each turn of hers counts once for each beginning that has it.
    return turns.hers * (turns.size + 1) - places_sum(turns, "a")


def next_above(turns):
    """The Turns next above, the least tuple of heirs first."""
    size = turns.size
    found = [exchanged(turns, end) for end in turns.ends if turns[end] == "b" and end < size]
    if size > 0 and turns[size] == "b":
        found.append(handed(turns, size))
    return sorted(found, key=heirs)


def next_below(turns):
    """The Turns next below, the least tuple of heirs first."""
    return sorted([swapped(own) for own in next_above(swapped(turns))], key=heirs)


def best_turns(hers, his):
    """The Turns with all of hers first."""
    return Turns(_runs_of("a", hers) + _runs_of("b", his))


def worst_turns(hers, his):
    """The Turns with all of his first."""
    return Turns(_runs_of("b", his) + _runs_of("a", hers))


def how_many_turns(hers, his):
    """How many Turns have so many turns of both."""
    return comb(hers + his, hers)


def how_many_between(one, other):
    """How many Turns are between them; raises OtherThings()."""
    return how_many_rows(_bounds(one, other))


def nth_between(one, other, number):
    """The Turns with this number, from 0; raises OtherThings(), NoNumber(number)."""
    return turns_of(nth_row(_bounds(one, other), number))


def number_of_between(one, other, third):
    """The number of third, None if it is not between; raises OtherThings()."""
    bounds = _bounds(one, other)
    check_size(one, third)
    return number_of_row(bounds, heirs(third))


def _bounds(one, other):
    """How many turns of hers each beginning has at the least and at the most; raises OtherThings()."""
    check_size(one, other)
    return [(ahead(other, number), ahead(one, number)) for number in range(one.size + 1)]
