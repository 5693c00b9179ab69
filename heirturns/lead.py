"""Which rows of turns are never worse for Ann, and what shows it."""

from heirturns.errors import NoPlace
from heirturns.kinds import is_number
from heirturns.picks import places_on, shares
from heirturns.turns import Turns, ahead, check_size, corners, exchanged, first_part, handed, his_turn_of, turn_of


def never_worse(one, other):
    """Whether one is worse for her with no lists of both; raises OtherThings()."""
    return against(one, other) is None


def against(one, other):
    """A number of a turn of hers that comes later in one, or None; raises OtherThings()."""
    check_size(one, other)
    # Between two corners the lead changes evenly: it is least at one of them.
    for number in corners(one, other):
        if ahead(one, number) < ahead(other, number):
            return ahead(other, number)
    return None


def is_against(one, other, thing):
    """Whether thing is such a number; raises OtherThings()."""
    check_size(one, other)
    if not is_number(thing) or not 1 <= thing <= other.hers:
        return False
    return thing > one.hers or turn_of(one, thing) > turn_of(other, thing)


def most_worse(one, other):
    """By how many turns a turn of hers comes later at the most, or None; raises OtherThings()."""
    check_size(one, other)
    if one.hers < other.hers:
        return None
    return max([0] + later_by(one, other))


def later_by(one, other):
    """By how many turns her turn number k comes later in one, each such number at least once.

    All k are meant of which there is a turn in both.
    """
    both = min(one.hers, other.hers)
    # The number is the same as long as no run of hers ends in one or other.
    begun = [which for which in run_numbers(one) + run_numbers(other) if which <= both]
    return [turn_of(one, which) - turn_of(other, which) for which in begun]


def run_numbers(turns):
    """For each run of hers, which turn of hers is its first one."""
    return [ahead(turns, end) - many + 1 for (heir, many), end in zip(turns.runs, turns.ends) if heir == "a"]


def compare(one, other):
    """How one is for her beside other, told in a word; raises OtherThings()."""
    is_one, is_other = never_worse(one, other), never_worse(other, one)
    if is_one and is_other:
        return "alike"
    if is_one:
        return "better"
    return "worse" if is_other else "apart"


def worse_at(one, other, hers, his):
    """The least k at which one is worse for her with these lists, or None; raises OtherThings()."""
    # The lists must go with one and with other, so these have as many turns, too.
    places = places_on(hers, shares(one, hers, his)[0])
    for at, place in enumerate(places_on(hers, shares(other, hers, his)[0])):
        if at >= len(places) or places[at] > place:
            return at + 1
    return None


def after(turns, steps):
    """The Turns behind these steps; raises NoPlace(number)."""
    now = turns
    for word, place in steps:
        now = _stepped(now, word, place)
    return now


def _stepped(turns, word, place):
    if word == "swap" and _may_swap(turns, place):
        return exchanged(turns, place)
    if word == "give" and _may_give(turns, place):
        return handed(turns, place)
    raise NoPlace(place)


def _may_swap(turns, place):
    return 1 <= place < turns.size and turns[place] == "b" and turns[place + 1] == "a"


def _may_give(turns, place):
    return turns.his > 0 and place == his_turn_of(turns, turns.his)


def is_steps(one, other, thing):
    """Whether thing is a tuple of steps by which other becomes one; raises OtherThings()."""
    check_size(one, other)
    if not isinstance(thing, tuple) or not all([_is_word_and_number(pair) for pair in thing]):
        return False
    try:
        behind = after(other, thing)
    except NoPlace:
        return False
    return behind == one


def _is_word_and_number(thing):
    if not isinstance(thing, tuple) or len(thing) != 2:
        return False
    return thing[0] in ("swap", "give") and is_number(thing[1])


def steps(one, other):
    """The fewest steps by which other becomes one, or None; raises OtherThings()."""
    if not never_worse(one, other):
        return None
    # First giving: a swap can but move a turn of his further behind, where it gives less.
    gives = [("give", his_turn_of(other, which)) for which in range(other.his, one.his, -1)]
    # The last one of his moves first, so that the others have room.
    swaps = [
        ("swap", place)
        for which in range(one.his, 0, -1)
        for place in range(his_turn_of(other, which), his_turn_of(one, which))
    ]
    return tuple(gives + swaps)


def fewest_steps(one, other):
    """How many steps are needed at the least, or None; raises OtherThings()."""
    if not never_worse(one, other):
        return None
    kept = _first_of_his(other, one.his)
    return other.his - one.his + places_sum(one, "b") - places_sum(kept, "b")


def _first_of_his(turns, many):
    """The turns to his turn with this number."""
    return first_part(turns, his_turn_of(turns, many)) if many > 0 else Turns()


def places_sum(turns, who):
    """The sum of the numbers of all turns of this heir."""
    total = 0
    end = 0
    for heir, many in turns.runs:
        if heir == who:
            total = total + many * end + many * (many + 1) // 2
        end = end + many
    return total
