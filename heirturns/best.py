"""The best share that Ann can take from a Bob who takes plainly."""

from heirturns.picks import by_list, check_lists, places_on, shares
from heirturns.takes import gone_early


def best_share(turns, hers, his):
    """The share that is never worse than any other that she can take; raises OtherThings()."""
    check_lists(turns, hers, his)
    found = []
    for name in hers:
        # What can be taken beside the better things is never given up for worse ones.
        if _can_have(turns, his, found + [name]):
            found.append(name)
    return tuple(sorted(found))


def _can_have(turns, his, names):
    """Whether a share that she can take has all of these."""
    return len(names) <= turns.hers and gone_early(turns, his, names) is None


def best_order(turns, hers, his):
    """The things of the best share as they stand on his list; raises OtherThings()."""
    return by_list(his, best_share(turns, hers, his))


def is_best_share(turns, hers, his, share):
    """Whether this set is the best share; raises OtherThings()."""
    return best_share(turns, hers, his) == tuple(share)


def plain_is_best(turns, hers, his):
    """Whether taking plainly she gets the best share, too; raises OtherThings()."""
    return is_best_share(turns, hers, his, shares(turns, hers, his)[0])


def worse_places(turns, hers, his):
    """The numbers k for which her k-th best thing is worse by plain taking; raises OtherThings()."""
    plain, best = shares(turns, hers, his)[0], best_share(turns, hers, his)
    return worse_numbers(hers, plain, best)


def worse_numbers(order, one, other):
    """The numbers k for which the k-th best thing by the list is worse in one share than in other.

    Both shares have equally many things.
    """
    places = places_on(order, other)
    return tuple([at + 1 for at, place in enumerate(places_on(order, one)) if place > places[at]])
