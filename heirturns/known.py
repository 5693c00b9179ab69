"""What becomes of the things if both heirs know both lists and play well."""

from heirturns.best import worse_numbers
from heirturns.picks import both_sets, check_lists, check_things, shares, without
from heirturns.turns import heirs, rest_of


def played(turns, hers, his):
    """The things that are taken, turn by turn, if both play well; raises OtherThings()."""
    check_lists(turns, hers, his)
    found = []
    for heir in heirs(turns)[::-1]:
        order = his if heir == "a" else hers
        found.append([name for name in order if name not in found][-1])
    return tuple(found[::-1])


def played_shares(turns, hers, his):
    """The pair of both sets, hers first, if both play well; raises OtherThings()."""
    return both_sets(turns, played(turns, hers, his))


def shares_behind(turns, hers, his, name):
    """This pair if the first heir takes this thing; raises OtherThings(), NoThing(name)."""
    check_lists(turns, hers, his)
    check_things(hers, (name,))
    then = played(rest_of(turns, 1), without(hers, name), without(his, name))
    return both_sets(turns, (name,) + then)


def good_takings(turns, hers, his):
    """The set of the things with which the first heir plays well; raises OtherThings()."""
    both = played_shares(turns, hers, his)
    return tuple(sorted([name for name in hers if shares_behind(turns, hers, his, name) == both]))


def gains(turns, hers, his):
    """The numbers k for which her k-th best thing is better if both play well, and is worse; raises OtherThings()."""
    well, plain = played_shares(turns, hers, his)[0], shares(turns, hers, his)[0]
    return worse_numbers(hers, plain, well), worse_numbers(hers, well, plain)
