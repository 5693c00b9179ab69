"""Bob's hidden list, told by what he took of what was left."""

from heirturns.errors import NoList, NoNumber, NothingDone
from heirturns.picks import check_many, check_things, without


class Hidden:
    """A hidden list of things, and the looks that tell of it."""

    def __init__(self, things):
        self._things = tuple(things)
        self._looks = []
        # What is known at first and behind each look, so that a look can be taken back.
        self._known_pairs = [()]

    @property
    def things(self):
        """The things on the list, ascending."""
        return self._things

    @property
    def looks(self):
        """The looks that were told, in order."""
        return tuple(self._looks)

    @property
    def pairs(self):
        """The pairs (one, other) of things, one known ahead of other."""
        return self._known_pairs[-1]

    @property
    def ask(self):
        """Two things of which neither is known ahead of the other one, or None."""
        unknown = [
            (one, other)
            for one in self._things
            for other in self._things
            if one < other and (one, other) not in self.pairs and (other, one) not in self.pairs
        ]
        return unknown[0] if unknown else None

    def tell(self, left, took):
        """Takes the look that of these left he took this one; raises NoThing(name), NoList()."""
        check_things(self._things, left)
        check_things(left, (took,))
        if took not in _firsts(left, self.pairs):
            raise NoList()
        behind = _with_look(self.pairs, left, took)
        self._looks.append((tuple(left), took))
        self._known_pairs.append(behind)

    def back(self):
        """Forgets the last look; raises NothingDone()."""
        if not self._looks:
            raise NothingDone()
        self._looks.pop()
        self._known_pairs.pop()

    def twin(self):
        """A Hidden equal to this one that shares nothing with it."""
        other = Hidden(self._things)
        other._looks = list(self._looks)
        other._known_pairs = list(self._known_pairs)
        return other

    def how_many(self):
        """How many lists fit."""
        return _how_many_of(self._things, self.pairs, {(): 1})

    def nth_list(self, number):
        """The list that fits with this number, from 0; raises NoNumber(number)."""
        ways = {(): 1}
        if not 0 <= number < _how_many_of(self._things, self.pairs, ways):
            raise NoNumber(number)
        return _nth_of(self._things, self.pairs, ways, number)

    def fits(self, order):
        """Whether this list of the things fits all looks."""
        return all([order.index(one) < order.index(other) for one, other in self.pairs])

    def known(self, one, other):
        """Whether one is known ahead of other; raises NoThing(name)."""
        check_things(self._things, (one, other))
        return (one, other) in self.pairs

    def may_take(self, left):
        """The set of those that he takes of these by some list that fits; raises NoThing(name)."""
        check_things(self._things, left)
        return _firsts(left, self.pairs)

    def sure_take(self, left):
        """The one that he takes of these for sure, or None; raises NoThing(name)."""
        found = self.may_take(left)
        return found[0] if len(found) == 1 else None

    def __len__(self):
        return len(self._looks)

    def __eq__(self, other):
        return isinstance(other, Hidden) and self._things == other._things and self._looks == other._looks


def _firsts(left, pairs):
    """Those of these ahead of which none of these is known."""
    return tuple([name for name in left if not any([(other, name) in pairs for other in left])])


def _with_look(pairs, left, took):
    """The pairs that are known if he took this one of these, too."""
    ones = [took] + [one for one, other in pairs if other == took]
    others = list(without(left, took))
    others = others + [other for one, other in pairs if one in others]
    return tuple(sorted(set(list(pairs) + [(one, other) for one in ones for other in others])))


def _how_many_of(left, pairs, ways):
    """How many lists of these fit; ways keeps what was counted."""
    if left not in ways:
        ways[left] = sum([_how_many_of(without(left, name), pairs, ways) for name in _firsts(left, pairs)])
    return ways[left]


def _nth_of(things, pairs, ways, number):
    """The list with this number of those that fit, which are more; ways keeps what was counted."""
    found = []
    left = things
    skipped = 0
    while left:
        for name in _firsts(left, pairs):
            many = _how_many_of(without(left, name), pairs, ways)
            if number < skipped + many:
                break
            skipped = skipped + many
        found.append(name)
        left = without(left, name)
    return tuple(found)


def looks_of(turns, things, taken):
    """The looks at his turns, if these were taken so far; raises OtherThings(), NoThing(name)."""
    check_many(turns, things)
    looks = []
    left = tuple(things)
    for at, name in enumerate(taken):
        check_things(left, (name,))
        if turns[at + 1] == "b":
            looks.append((left, name))
        left = without(left, name)
    return tuple(looks)


def surveyed(things, asker):
    """The list of the things that is found by asking which one of two stands ahead."""
    found = []
    for name in things:
        found.insert(_place_in(found, name, asker), name)
    return tuple(found)


def _place_in(found, name, asker):
    """How many of those found stand ahead of the thing."""
    low = 0
    high = len(found)
    while low < high:
        middle = (low + high) // 2
        if asker(tuple(sorted((name, found[middle])))) == name:
            high = middle
        else:
            low = middle + 1
    return low
