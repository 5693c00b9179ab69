"""Things taken plainly: each heir takes what stands first on their own list."""

from heirturns.errors import NoNumber, NoThing, OtherThings
from heirturns.kinds import ascends, is_name
from heirturns.turns import heirs


def is_list(thing):
    """Whether thing is a list of things, no two alike."""
    if not isinstance(thing, tuple) or not all([is_name(name) for name in thing]):
        return False
    return len(set(thing)) == len(thing)


def is_share(order, thing):
    """Whether thing is a set of things of this list."""
    if not isinstance(thing, tuple) or not all([name in order for name in thing]):
        return False
    return ascends(thing)


def check_many(turns, order):
    """Raises OtherThings() if the list has not as many things as there are turns."""
    if len(order) != turns.size:
        raise OtherThings()


def check_lists(turns, hers, his):
    """Raises OtherThings() unless both lists have the same things, as many as turns."""
    check_many(turns, hers)
    if sorted(hers) != sorted(his):
        raise OtherThings()


def check_things(order, names):
    """Raises NoThing(name) for the first of the names that is not on the list."""
    for name in names:
        if name not in order:
            raise NoThing(name)


def taken(turns, hers, his):
    """The things, turn by turn; raises OtherThings()."""
    check_lists(turns, hers, his)
    found = []
    for heir in heirs(turns):
        found.append(first_left(hers if heir == "a" else his, found))
    return tuple(found)


def first_left(order, gone):
    """The first thing of the list that is not gone."""
    return [name for name in order if name not in gone][0]


def without(order, name):
    """All things of the list but this one."""
    return tuple([other for other in order if other != name])


def shares(turns, hers, his):
    """The pair of her share and his; raises OtherThings()."""
    return both_sets(turns, taken(turns, hers, his))


def both_sets(turns, names):
    """The pair of the sets of what she has and he has of these, taken turn by turn."""
    row = heirs(turns)
    return set_of("a", row, names), set_of("b", row, names)


def set_of(who, row, names):
    """The set of what this heir of the row has of these, taken turn by turn."""
    return tuple(sorted([name for heir, name in zip(row, names) if heir == who]))


def story(turns, hers, his):
    """The lines that tell turn by turn who takes what; raises OtherThings()."""
    lines = []
    for at, name in enumerate(taken(turns, hers, his)):
        heir = turns[at + 1]
        order = hers if heir == "a" else his
        lines.append(f"{at + 1} {heir}: {name}, place {order.index(name) + 1}")
    return lines


def left_behind(turns, hers, his, number):
    """The set of what is left behind so many turns; raises OtherThings(), NoNumber(number)."""
    names = taken(turns, hers, his)
    if number < 0 or number > len(names):
        raise NoNumber(number)
    return tuple(sorted(names[number:]))


def by_list(order, share):
    """The things of the share as they stand on the list; raises NoThing(name)."""
    check_things(order, share)
    return tuple([name for name in order if name in share])


def places_on(order, share):
    """The places, from 1, at which they stand on the list; raises NoThing(name)."""
    check_things(order, share)
    return tuple([at + 1 for at, name in enumerate(order) if name in share])


def kth_best(order, share, number):
    """The thing of the share with this number by the list; raises NoThing(name), NoNumber(number)."""
    names = by_list(order, share)
    if number < 1 or number > len(names):
        raise NoNumber(number)
    return names[number - 1]
