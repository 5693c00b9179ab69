"""How likely shares and things are, if each list is as likely to be Bob's."""

from math import gcd

from heirturns.picks import check_many, check_things, places_on
from heirturns.shares import all_shares
from heirturns.takes import how_many_orders
from heirturns.turns import heirs, swapped


def chance_of_share(turns, hers, share):
    """The chance that she gets just these; raises OtherThings(), NoThing(name)."""
    check_many(turns, hers)
    check_things(hers, share)
    return _chance(turns, _ways_to(turns, hers, share))


def _ways_to(turns, hers, share):
    """In how many orders he can take what he takes, so that she gets just these."""
    # He takes as his hidden list tells, she plainly: as if she were a plain Bob, and he took as he likes.
    return how_many_orders(swapped(turns), hers, [name for name in hers if name not in share])


def _chance(turns, ways):
    """So many of all orders in which he can take things, each of them as likely."""
    return _fraction(ways, _all_ways(turns))


def _all_ways(turns):
    """In how many orders he can take things, whatever share she gets."""
    total = 1
    for at, heir in enumerate(heirs(turns)):
        if heir == "b":
            total = total * (turns.size - at)
    return total


def _fraction(top, bottom):
    """The fraction in lowest terms."""
    common = gcd(top, bottom)
    return top // common, bottom // common


def chance_of(turns, hers, name):
    """The chance that she gets this thing; raises OtherThings(), NoThing(name)."""
    check_many(turns, hers)
    check_things(hers, (name,))
    return _chance_of_one(turns, _shares_with_ways(turns, hers), name)


def _shares_with_ways(turns, hers):
    """All shares that can come about, each with its ways; raises OtherThings()."""
    return [(share, _ways_to(turns, hers, share)) for share in all_shares(turns, hers)]


def _chance_of_one(turns, told, name):
    return _chance(turns, sum([ways for share, ways in told if name in share]))


def all_chances(turns, hers):
    """The chances of all things, in the order of her list; raises OtherThings()."""
    told = _shares_with_ways(turns, hers)
    return tuple([_chance_of_one(turns, told, name) for name in hers])


def expected_places(turns, hers):
    """The expected places of her best thing, her second best, and so on; raises OtherThings()."""
    told = [(places_on(hers, share), ways) for share, ways in _shares_with_ways(turns, hers)]
    return tuple([_chance(turns, sum([places[at] * ways for places, ways in told])) for at in range(turns.hers)])


def likeliest_share(turns, hers):
    """The share with the greatest chance, of several the least; raises OtherThings()."""
    told = _shares_with_ways(turns, hers)
    most = max([ways for share, ways in told])
    return [share for share, ways in told if ways == most][0]
