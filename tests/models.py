"""What the document says, tried out plainly, for few turns: the tests compare with it."""

from itertools import combinations, permutations, product

from heirturns.turns import Turns, turns_of

NAMES = ("fig", "ash", "elm", "oak", "yew", "bay", "box", "may", "rue", "sloe", "thyme", "zz")
GREAT = 10 ** 30
THREE, FOUR = ("fig", "ash", "elm"), ("fig", "ash", "elm", "oak")

# Turns and lists that do not go together.
UNFIT = tuple(
    {"turns": Turns(runs), "hers": hers, "his": his}
    for runs, hers, his in (
        ((("a", 1), ("b", 1), ("a", 1)), THREE, ("fig", "ash", "oak")),
        ((("a", 1), ("b", 1), ("a", 1)), THREE, THREE[:2]),
        ((("a", 1), ("b", 1), ("a", 1)), THREE[:2], THREE),
        ((("a", 1), ("b", 1), ("a", 1)), THREE[:2], THREE[:2]),
        ((("a", 1), ("b", 1), ("a", 1)), FOUR, FOUR),
        ((("a", 1), ("b", 1), ("a", 1)), THREE, FOUR),
        ((("a", 1), ("b", 1), ("a", 1)), FOUR, THREE),
        ((("a", 1), ("b", 1), ("a", 1)), (), ()),
        ((("a", 1),), ("fig",), ("ash",)),
        ((("b", 1),), (), ()),
        ((), ("fig",), ("fig",)),
        ((), (), ("fig",)),
        ((), ("fig",), ()),
        ((("a", GREAT), ("b", GREAT)), THREE, THREE),
    )
)


def rows(size):
    """All rows of heirs of so many turns, ascending."""
    return list(product("ab", repeat=size))


def rows_to(most):
    """All rows of heirs of at most so many turns."""
    return [row for size in range(most + 1) for row in rows(size)]


def lists(size):
    """All lists of the first so many names."""
    return list(permutations(NAMES[:size]))


def subsets(names):
    """All sets of these names."""
    return [tuple(sorted(chosen)) for many in range(len(names) + 1) for chosen in combinations(names, many)]


def times(turns, factor):
    """The Turns with so many times as many turns in each run."""
    return Turns([(heir, many * factor) for heir, many in turns.runs])


def places_of(row, heir):
    """The numbers of the turns of this heir."""
    return [at + 1 for at, own in enumerate(row) if own == heir]


def plain_taken(row, hers, his):
    """What is taken plainly, turn by turn."""
    left = list(hers)
    found = []
    for heir in row:
        name = min(left, key=(hers if heir == "a" else his).index)
        left.remove(name)
        found.append(name)
    return tuple(found)


def plain_share(row, hers, his, heir="a"):
    """The set of what the heir takes plainly."""
    return tuple(sorted(name for own, name in zip(row, plain_taken(row, hers, his)) if own == heir))


def best_first(order, share):
    """The things of the share, the best one by the list first."""
    return sorted(share, key=order.index)


def is_worse(order, one, other):
    """The least k at which the one share is worse by the list than the other one, or None."""
    left, right = best_first(order, one), best_first(order, other)
    for at, name in enumerate(right):
        if at >= len(left) or order.index(left[at]) > order.index(name):
            return at + 1
    return None


def plain_lost(row, his, wanted):
    """At which turn of hers what she wants is gone, if he takes plainly, or None."""
    left = list(his)
    waiting = list(wanted)
    for heir in row:
        if heir == "b":
            left.pop(0)
        elif waiting[0] not in left:
            return len(wanted) - len(waiting) + 1
        else:
            left.remove(waiting.pop(0))
    return None


def plain_orders(row, his, share):
    """All orders in which she gets the whole share."""
    if len(share) != row.count("a"):
        return []
    return [order for order in permutations(share) if plain_lost(row, his, order) is None]


def turns_and_rows(size):
    return [(row, turns_of(row)) for row in rows(size)]


def takes_tried_out(row, his):
    """All shares that she can take, by all orders in which she may want things."""
    return [share for share in subsets(his) if plain_orders(row, his, share)]


def plain_worse_numbers(order, one, other):
    """The numbers k for which the k-th best thing is worse in the one share than in the other one."""
    both = zip(best_first(order, one), best_first(order, other))
    return tuple(at + 1 for at, (mine, yours) in enumerate(both) if order.index(mine) > order.index(yours))


def beginnings(row):
    """How many turns of hers each beginning has."""
    return [row[:end].count("a") for end in range(len(row) + 1)]


def is_row_above(one, other):
    """Whether each beginning of one has at least as many turns of hers."""
    return all(mine >= yours for mine, yours in zip(beginnings(one), beginnings(other)))
