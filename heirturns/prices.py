"""What shares are worth by prices of the things."""

from heirturns.best import best_share
from heirturns.kinds import ascends, is_name, is_number
from heirturns.picks import check_many, check_things
from heirturns.turns import backwards


def is_prices(thing):
    """Whether thing is prices."""
    if not isinstance(thing, tuple) or not all([_is_priced_thing(pair) for pair in thing]):
        return False
    return ascends([name for name, price in thing])


def _is_priced_thing(thing):
    if not isinstance(thing, tuple) or len(thing) != 2:
        return False
    name, price = thing
    return is_name(name) and is_number(price) and price >= 0


def worth(prices, share):
    """The sum of the prices of the share; raises NoThing(name)."""
    return sum(_prices_of(prices, share))


def _prices_of(prices, names):
    """The prices of these things, in their order; raises NoThing(name)."""
    priced = {name: price for name, price in prices}
    check_things(list(priced), names)
    return [priced[name] for name in names]


def keeps(prices, order):
    """Whether no thing of the list has a greater price than one ahead of it; raises NoThing(name)."""
    found = _prices_of(prices, order)
    return all([one >= other for one, other in zip(found, found[1:])])


def most_taken(turns, his, prices):
    """The greatest worth of a share that she can take; raises OtherThings(), NoThing(name)."""
    return worth(prices, most_taken_share(turns, his, prices))


def most_taken_share(turns, his, prices):
    """A share that she can take with the greatest worth; raises OtherThings(), NoThing(name)."""
    return best_share(turns, _cheapest_first(turns, his, prices)[::-1], his)


def _cheapest_first(turns, order, prices):
    """The things of the list by their prices; raises OtherThings(), NoThing(name)."""
    check_many(turns, order)
    pairs = sorted([(price, name) for price, name in zip(_prices_of(prices, order), order)])
    return [name for price, name in pairs]


def least_come(turns, hers, prices):
    """The least worth of a share that can come about; raises OtherThings(), NoThing(name)."""
    return worth(prices, least_come_share(turns, hers, prices))


def most_come(turns, hers, prices):
    """The greatest worth of a share that can come about; raises OtherThings(), NoThing(name)."""
    return worth(prices, most_come_share(turns, hers, prices))


# The shares that can come about are those that can be taken by the turns and
# her list backwards; and of these one is best by whatever list.


def least_come_share(turns, hers, prices):
    """A share that can come about with the least worth; raises OtherThings(), NoThing(name)."""
    return best_share(backwards(turns), _cheapest_first(turns, hers, prices), hers[::-1])


def most_come_share(turns, hers, prices):
    """A share that can come about with the greatest worth; raises OtherThings(), NoThing(name)."""
    return best_share(backwards(turns), _cheapest_first(turns, hers, prices)[::-1], hers[::-1])


def never_worth_less(order, one, other):
    """Whether one is worth less than other by no prices that keep the list; raises NoThing(name)."""
    return prices_against(order, one, other) is None


def prices_against(order, one, other):
    """Prices that keep the list by which one is worth less than other, or None; raises NoThing(name)."""
    check_things(order, one)
    check_things(order, other)
    for end in range(len(order)):
        first = order[:end + 1]
        if _how_many_in(first, one) < _how_many_in(first, other):
            return tuple(sorted([(name, 1 if name in first else 0) for name in order]))
    return None


def _how_many_in(names, share):
    return len([name for name in names if name in share])


def is_prices_against(order, one, other, thing):
    """Whether thing is such prices of just the things of the list; raises NoThing(name)."""
    check_things(order, one)
    check_things(order, other)
    if not is_prices(thing) or [name for name, price in thing] != sorted(order):
        return False
    return keeps(thing, order) and worth(thing, one) < worth(thing, other)
