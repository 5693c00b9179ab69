"""What becomes of her share if a list, the turns or the things change a little."""

from heirturns.errors import Known, NoPlace, NothingDone
from heirturns.picks import check_lists, check_things, shares, without
from heirturns.turns import Turns, exchanged

NO_CHANGE = ((), ())


def list_exchanged(things, place):
    """The list with the things at this place and the next one exchanged; raises NoPlace(number)."""
    if not 1 <= place < len(things):
        raise NoPlace(place)
    both = (things[place], things[place - 1])
    return tuple(things[:place - 1]) + both + tuple(things[place + 1:])


def thing_put(things, place, name):
    """The list with this thing at this place; raises NoPlace(number), Known(name)."""
    if not 1 <= place <= len(things) + 1:
        raise NoPlace(place)
    if name in things:
        raise Known(name)
    return tuple(things[:place - 1]) + (name,) + tuple(things[place - 1:])


def thing_left_out(things, name):
    """The list without this thing; raises NoThing(name)."""
    check_things(things, (name,))
    return without(things, name)


def share_change(before, after):
    """The pair of the things that are in before alone, and of those that are in after alone."""
    return _in_one_alone(before, after), _in_one_alone(after, before)


def _in_one_alone(one, other):
    return tuple([name for name in one if name not in other])


def by_lists(turns, hers, his, who, place):
    """How her share changes by an exchange on the list of who; raises OtherThings(), NoPlace(number)."""
    before = _her_share(turns, hers, his)
    mine, yours = _with_exchange(hers, his, who, place)
    return share_change(before, _her_share(turns, mine, yours))


def _her_share(turns, hers, his):
    return shares(turns, hers, his)[0]


def _with_exchange(hers, his, who, place):
    """Both lists, that of who list_exchanged; raises NoPlace(number)."""
    if who == "a":
        return list_exchanged(hers, place), his
    return hers, list_exchanged(his, place)


def by_turns(turns, hers, his, place):
    """How her share changes by an exchange of turns; raises OtherThings(), NoPlace(number)."""
    before = _her_share(turns, hers, his)
    return share_change(before, _her_share(exchanged(turns, place), hers, his))


def list_places(turns, hers, his, who):
    """The places at which by_lists tells of a change; raises OtherThings()."""
    check_lists(turns, hers, his)
    places = range(1, len(hers))
    return tuple([place for place in places if by_lists(turns, hers, his, who, place) != NO_CHANGE])


def turn_places(turns, hers, his):
    """The places at which by_turns tells of a change; raises OtherThings()."""
    check_lists(turns, hers, his)
    places = range(1, len(hers))
    return tuple([place for place in places if by_turns(turns, hers, his, place) != NO_CHANGE])


def with_thing(turns, hers, his, heir, name, place, other):
    """The turns and both lists with one turn and this thing more.

    Raises OtherThings(), NoPlace(number), Known(name), NoPlace(number).
    """
    check_lists(turns, hers, his)
    mine, yours = thing_put(hers, place, name), thing_put(his, other, name)
    return turns + Turns([(heir, 1)]), mine, yours


class Watch:
    """Turns and lists that change, and her share behind each change; raises OtherThings()."""

    def __init__(self, turns, hers, his):
        self._told = [_her_share(turns, hers, his)]
        self._now = (turns, tuple(hers), tuple(his))
        self._past = []

    @property
    def turns(self):
        """The turns as they are now."""
        return self._now[0]

    @property
    def hers(self):
        """Her list as it is now."""
        return self._now[1]

    @property
    def his(self):
        """His list as it is now."""
        return self._now[2]

    @property
    def share(self):
        """Her share now."""
        return self._told[-1]

    @property
    def told(self):
        """Her shares at the beginning and behind each deed that is not taken back."""
        return tuple(self._told)

    def exchange_list(self, who, place):
        """Exchanges on the list of who; returns her share; raises NoPlace(number)."""
        mine, yours = _with_exchange(self.hers, self.his, who, place)
        return self._become(self.turns, mine, yours)

    def exchange_turns(self, place):
        """Exchanges two turns; returns her share; raises NoPlace(number)."""
        return self._become(exchanged(self.turns, place), self.hers, self.his)

    def add(self, heir, name, place, other):
        """Puts a turn and a thing more; returns her share; raises NoPlace(number), Known(name)."""
        turns, mine, yours = with_thing(self.turns, self.hers, self.his, heir, name, place, other)
        return self._become(turns, mine, yours)

    def _become(self, turns, hers, his):
        """Does the deed by which all three become these; returns her share."""
        share = _her_share(turns, hers, his)
        self._past.append(self._now)
        self._now = (turns, hers, his)
        self._told.append(share)
        return share

    def back(self):
        """Takes the last deed back; raises NothingDone()."""
        if not self._past:
            raise NothingDone()
        self._now = self._past.pop()
        self._told.pop()

    def twin(self):
        """A Watch equal to this one that shares nothing with it."""
        other = Watch(self.turns, self.hers, self.his)
        other._told = list(self._told)
        other._past = list(self._past)
        return other

    def __len__(self):
        return len(self._past)

    def __iter__(self):
        raise TypeError("a Watch is not iterated over")

    def __eq__(self, other):
        return isinstance(other, Watch) and self._now == other._now and self._told == other._told
