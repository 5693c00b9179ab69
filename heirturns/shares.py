"""Shares that can come about: Ann's list is known, Bob's is not."""

from heirturns.errors import NoNumber
from heirturns.picks import check_many, check_things, is_list, places_on, shares
from heirturns.rows import how_many_rows
from heirturns.turns import ahead, turn_of


def come_against(turns, hers, share):
    """None if the share can come about, else what is against it; raises OtherThings(), NoThing(name)."""
    check_many(turns, hers)
    places = places_on(hers, share)
    if len(places) != turns.hers:
        return 0
    for at, place in enumerate(places):
        if place > turn_of(turns, at + 1):
            return at + 1
    return None


def can_come(turns, hers, share):
    """Whether the share can come about; raises OtherThings(), NoThing(name)."""
    return come_against(turns, hers, share) is None


def his_list(turns, hers, share):
    """A list of his by which the share comes about, or None; raises OtherThings(), NoThing(name)."""
    if not can_come(turns, hers, share):
        return None
    # He takes what she would like next, but for the share: so she comes to all of it.
    others = [name for name in hers if name not in share]
    return tuple(others + [name for name in hers if name in share])


def is_his_list(turns, hers, share, thing):
    """Whether thing is a list of his by which the share comes about; raises OtherThings(), NoThing(name)."""
    check_many(turns, hers)
    check_things(hers, share)
    if not is_list(thing) or sorted(thing) != sorted(hers):
        return False
    return shares(turns, hers, thing)[0] == tuple(share)


def all_shares(turns, hers):
    """All shares that can come about, ascending; raises OtherThings()."""
    check_many(turns, hers)
    rows = [(0,)]
    for which in range(1, turns.hers + 1):
        last = turn_of(turns, which)
        rows = [row + (place,) for row in rows for place in range(row[-1] + 1, last + 1)]
    return sorted([tuple(sorted([hers[place - 1] for place in row[1:]])) for row in rows])


def nth_share(turns, hers, number):
    """The share with this number, from 0; raises OtherThings(), NoNumber(number)."""
    found = all_shares(turns, hers)
    if number < 0 or number >= len(found):
        raise NoNumber(number)
    return found[number]


def number_of_share(turns, hers, share):
    """The number of the share, None if it can not come about; raises OtherThings(), NoThing(name)."""
    if not can_come(turns, hers, share):
        return None
    return all_shares(turns, hers).index(tuple(share))


def how_many_shares(turns):
    """How many shares can come about."""
    # The places of a share are like her turns in a row in which none of them comes later.
    bounds = [(ahead(turns, number), min(number, turns.hers)) for number in range(turns.size + 1)]
    return how_many_rows(bounds)


def sure_things(turns, hers):
    """The set of the things that she has for all lists of his; raises OtherThings()."""
    check_many(turns, hers)
    sure = turns.ends[0] if turns.size > 0 and turns[1] == "a" else 0
    return tuple(sorted(hers[:sure]))


def possible_things(turns, hers):
    """The set of the things that she has for some lists of his; raises OtherThings()."""
    check_many(turns, hers)
    last = turn_of(turns, turns.hers) if turns.hers > 0 else 0
    return tuple(sorted(hers[:last]))


def worst_of(turns, hers, which):
    """The worst thing that her best thing with this number can be; raises OtherThings(), NoNumber(number)."""
    check_many(turns, hers)
    return hers[turn_of(turns, which) - 1]
