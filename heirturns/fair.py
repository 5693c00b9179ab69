"""How even rows of turns are, if both heirs have one list."""

from heirturns.lead import later_by, places_sum
from heirturns.rows import how_many_rows, nth_row, number_of_row
from heirturns.turns import ahead, heirs, swapped, turns_of


def lead(turns):
    """By how many, at the most, hers are more than his in a beginning."""
    return max([2 * ahead(turns, end) - end for end in (0,) + turns.ends])


def lag(turns):
    """By how many, at the most, his are more than hers in a beginning."""
    return lead(swapped(turns))


def spread(turns):
    """The greater one of lead and lag."""
    return max(lead(turns), lag(turns))


def never_behind(turns):
    """Whether in no beginning more are his than hers."""
    return lag(turns) == 0


def behind_at(turns):
    """How many turns the least beginning has in which more are his than hers, or None."""
    more = 0
    begin = 0
    for heir, many in turns.runs:
        if heir == "b" and many > more:
            return begin + more + 1
        more = more + many if heir == "a" else more - many
        begin = begin + many
    return None


def most_gain(turns, top):
    """How much more her share is worth at the most by prices of at most top."""
    return top * lead(turns)


def most_apart(turns):
    """By how many places, at the most, her k-th best thing and his are apart."""
    return max([0] + [abs(many) for many in later_by(turns, swapped(turns))])


def place_sums(turns):
    """The pair of the sums of the places of hers and of his."""
    return places_sum(turns, "a"), places_sum(turns, "b")


def how_many_within(size, most):
    """How many Turns of so many turns have no greater spread than most."""
    return how_many_rows(_bounds(size, most))


def nth_within(size, most, number):
    """The Turns of these with this number, from 0; raises NoNumber(number)."""
    return turns_of(nth_row(_bounds(size, most), number))


def number_of_within(turns, most):
    """The number of the Turns among those, None if their spread is greater."""
    return number_of_row(_bounds(turns.size, most), heirs(turns))


def _bounds(size, most):
    """How many turns of hers each beginning has at the least and at the most."""
    return [(max((end - most + 1) // 2, 0), min((end + most) // 2, end)) for end in range(size + 1)]
