"""Several heirs who take things by turns."""

from heirturns.errors import NoHeir, OtherThings
from heirturns.kinds import ascends, is_name
from heirturns.picks import check_things, first_left, is_list, set_of
from heirturns.shares import can_come, his_list
from heirturns.turns import turns_of


def is_row(thing):
    """Whether thing is a row of heirs."""
    return isinstance(thing, tuple) and all([_is_letter(heir) for heir in thing])


def _is_letter(thing):
    return is_name(thing) and len(thing) == 1


def is_lists(thing):
    """Whether thing is lists of heirs, all of the same things."""
    if not isinstance(thing, tuple) or not all([_is_heir_with_list(pair) for pair in thing]):
        return False
    alike = all([sorted(order) == sorted(thing[0][1]) for heir, order in thing])
    return alike and ascends([heir for heir, order in thing])


def _is_heir_with_list(thing):
    if not isinstance(thing, tuple) or len(thing) != 2:
        return False
    return _is_letter(thing[0]) and is_list(thing[1])


def picked(row, lists):
    """The things, turn by turn; raises NoHeir(name), OtherThings()."""
    _check_row(row, lists)
    found = []
    for heir in row:
        found.append(first_left(_list_of(lists, heir), found))
    return tuple(found)


def _list_of(lists, heir):
    """The list of this heir; raises NoHeir(name)."""
    for own, order in lists:
        if own == heir:
            return tuple(order)
    raise NoHeir(heir)


def _check_row(row, lists):
    """Raises NoHeir(name), OtherThings() unless all heirs have lists of as many things as turns."""
    for heir in row:
        _list_of(lists, heir)
    many = len(lists[0][1]) if lists else 0
    if many != len(row):
        raise OtherThings()


def share_of(row, lists, heir):
    """The set of what this heir has; raises NoHeir(name), OtherThings()."""
    _list_of(lists, heir)
    return set_of(heir, row, picked(row, lists))


def as_one(row, lists, one, other):
    """The row and the lists if all turns of other are turns of one; raises NoHeir(name), OtherThings()."""
    if _list_of(lists, one) != _list_of(lists, other):
        raise OtherThings()
    joined = tuple([one if heir == other else heir for heir in row])
    kept = tuple([(heir, tuple(order)) for heir, order in lists if heir == one or heir != other])
    return joined, kept


def can_come_among(row, hers, heir, share):
    """Whether the heir has just this share by some lists of the others; raises OtherThings(), NoThing(name)."""
    return can_come(_as_two(row, heir), hers, share)


def _as_two(row, heir):
    """The turns of this heir as Ann's, those of all others as Bob's."""
    return turns_of(["a" if own == heir else "b" for own in row])


def lists_for(row, hers, heir, share):
    """Lists by which the heir has just this share, or None; raises OtherThings(), NoThing(name)."""
    # Others who all have one list take as one heir would.
    order = his_list(_as_two(row, heir), hers, share)
    if order is None:
        return None
    names = sorted(set([heir] + list(row)))
    return tuple([(own, tuple(hers) if own == heir else order) for own in names])


def can_take_among(row, lists, heir, share):
    """Whether the heir can take just this share; raises NoHeir(name), OtherThings(), NoThing(name)."""
    return order_among(row, lists, heir, share) is not None


def order_among(row, lists, heir, share):
    """An order in which the heir can take the share, or None; raises NoHeir(name), OtherThings(), NoThing(name)."""
    order = _list_of(lists, heir)
    _check_row(row, lists)
    check_things(order, share)
    if len(share) != row.count(heir):
        return None
    wanted = _soonest_first(row, lists, heir, share)
    return wanted if is_order_among(row, lists, heir, wanted) else None


def _soonest_first(row, lists, heir, share):
    """The things of the share, that first which another heir would take first.

    The share has as many things as the heir has turns.
    """
    passed = []
    for own in row:
        if own != heir:
            # As long as others take nothing of the share, the other things that they take are always the same.
            left = [name for name in _list_of(lists, own) if name not in passed]
            at = [name in share for name in left].index(False)
            passed = passed + left[:at + 1]
    return tuple([name for name in passed if name in share] + [name for name in share if name not in passed])


def is_order_among(row, lists, heir, thing):
    """Whether thing is an order in which the heir can take things; raises NoHeir(name), OtherThings()."""
    order = _list_of(lists, heir)
    _check_row(row, lists)
    if not isinstance(thing, tuple) or len(thing) != row.count(heir):
        return False
    return all([name in order for name in thing]) and _can_take_so(row, lists, heir, thing)


def _can_take_so(row, lists, heir, wanted):
    """Whether the heir gets each of these, one at each turn, if all others take plainly."""
    gone = []
    which = 0
    for own in row:
        if own != heir:
            gone.append(first_left(_list_of(lists, own), gone))
        elif wanted[which] in gone:
            return False
        else:
            gone.append(wanted[which])
            which = which + 1
    return True
