"""Shares that can be taken: Bob's list is known, and Ann takes as she likes."""

from heirturns.picks import by_list, check_many, check_things, first_left, places_on
from heirturns.shares import all_shares, how_many_shares, nth_share, number_of_share, possible_things, sure_things
from heirturns.turns import ahead, backwards, heirs, his_turn_of, turn_of


def take_against(turns, his, share):
    """None if the share can be taken, else what is against it; raises OtherThings(), NoThing(name)."""
    check_many(turns, his)
    check_things(his, share)
    return 0 if len(share) != turns.hers else gone_early(turns, his, share)


def gone_early(turns, his, share):
    """The least k whose thing by his list stands ahead of the place of her turn number k, or None.

    The share has at most as many things as she has turns.
    """
    for at, place in enumerate(places_on(his, share)):
        if place < turn_of(turns, at + 1):
            return at + 1
    return None


def can_take(turns, his, share):
    """Whether the share can be taken; raises OtherThings(), NoThing(name)."""
    return take_against(turns, his, share) is None


def lost_at(turns, his, order):
    """At which turn of hers the thing that she wants is gone, or None; raises OtherThings(), NoThing(name)."""
    check_many(turns, his)
    check_things(his, order)
    gone = []
    wanted = 0
    for heir in heirs(turns):
        if heir == "b":
            gone.append(first_left(his, gone))
        elif order[wanted] in gone:
            return wanted + 1
        else:
            gone.append(order[wanted])
            wanted = wanted + 1
    return None


def order_for(turns, his, share):
    """An order in which she gets all of the share, or None; raises OtherThings(), NoThing(name)."""
    return by_list(his, share) if can_take(turns, his, share) else None


def is_order_for(turns, his, share, thing):
    """Whether thing is such an order; raises OtherThings(), NoThing(name)."""
    if take_against(turns, his, share) == 0 or not isinstance(thing, tuple):
        return False
    if not all([name in share for name in thing]) or sorted(thing) != list(share):
        return False
    return lost_at(turns, his, thing) is None


def how_many_orders(turns, his, share):
    """In how many orders she gets all of the share; raises OtherThings(), NoThing(name)."""
    if take_against(turns, his, share) == 0:
        return 0
    total = 1
    for at, many in enumerate(_turns_in_time(turns, his, share)):
        total = total * (many - at)
    return total


def _turns_in_time(turns, his, share):
    """For each thing of the share, by his list, how many turns she has before he would take it; it never falls."""
    found = []
    others = 0
    for name in his:
        if name in share:
            found.append(ahead(turns, his_turn_of(turns, others + 1)) if others < turns.his else turns.hers)
        else:
            others = others + 1
    return found


# The shares that can be taken are those that can come about by the turns and
# his list backwards: so what is told of all of them is told there.


def all_takes(turns, his):
    """All shares that can be taken, ascending; raises OtherThings()."""
    return all_shares(backwards(turns), his[::-1])


def nth_take(turns, his, number):
    """The share with this number, from 0; raises OtherThings(), NoNumber(number)."""
    return nth_share(backwards(turns), his[::-1], number)


def number_of_take(turns, his, share):
    """The number of the share, None if it can not be taken; raises OtherThings(), NoThing(name)."""
    return number_of_share(backwards(turns), his[::-1], share)


def how_many_takes(turns):
    """How many shares can be taken."""
    return how_many_shares(backwards(turns))


def always_taken(turns, his):
    """The set of the things that are hers however she takes; raises OtherThings()."""
    return sure_things(backwards(turns), his[::-1])


def ever_taken(turns, his):
    """The set of the things that she can have; raises OtherThings()."""
    return possible_things(backwards(turns), his[::-1])
