"""Several rows of turns, each with a name: which stand above which."""

from heirturns.errors import Known
from heirturns.lattice import above_both, below_both
from heirturns.lead import never_worse
from heirturns.named import check_named, names_of, turns_named
from heirturns.turns import check_size


class Table:
    """Turns with names; it does not change; raises Known(name), OtherThings()."""

    def __init__(self, rows):
        _check_rows(rows)
        self._rows = tuple(sorted([(name, turns) for name, turns in rows]))
        self._pairs = _pairs_of(self._rows)

    @property
    def names(self):
        """The set of the names."""
        return names_of(self._rows)

    def __len__(self):
        return len(self._rows)

    def __contains__(self, name):
        return name in self.names

    def __getitem__(self, name):
        """The Turns with this name; raises NoTurns(name)."""
        return turns_named(self._rows, name)

    def __iter__(self):
        # Without this, Python would iterate by __getitem__.
        raise TypeError("a Table is not iterated over")

    def __eq__(self, other):
        return isinstance(other, Table) and self._rows == other._rows

    def is_never_worse(self, name, other):
        """Whether the Turns of name are never worse than those of other; raises NoTurns(name)."""
        return never_worse(self[name], self[other])

    def all_pairs(self):
        """The pairs of names of which the first one stands above the second one."""
        return self._pairs

    def below(self, name):
        """The set of the names below this one; raises NoTurns(name)."""
        check_named(self._rows, name)
        return tuple([other for one, other in self._pairs if one == name])

    def above(self, name):
        """The set of the names above this one; raises NoTurns(name)."""
        check_named(self._rows, name)
        return tuple([one for one, other in self._pairs if other == name])

    def next_below(self, name):
        """The set of the names below this one with none between; raises NoTurns(name)."""
        names = self.below(name)
        return tuple([own for own in names if not any([(other, own) in self._pairs for other in names])])

    def next_above(self, name):
        """The set of the names above this one with none between; raises NoTurns(name)."""
        names = self.above(name)
        return tuple([own for own in names if not any([(own, other) in self._pairs for other in names])])

    def ties(self):
        """The sets of at least two names with equal Turns."""
        sets = [self._tied_with(name) for name in self.names]
        return tuple([own for own, name in zip(sets, self.names) if len(own) > 1 and own[0] == name])

    def _tied_with(self, name):
        """The set of this name and of those that are tied with it."""
        return tuple([own for own, turns in self._rows if turns == self[name]])

    def layers(self):
        """The sets of names above which only names of earlier sets stand."""
        found = []
        done = []
        while len(done) < len(self._rows):
            left = [name for name in self.names if name not in done]
            layer = [name for name in left if all([other in done for other in self.above(name)])]
            found.append(tuple(layer))
            done = done + layer
        return found

    def chain(self):
        """The least of the longest tuples of names, each above the next one."""
        lengths = self._chain_lengths()
        found = []
        names = self.names
        for many in range(max([0] + list(lengths.values())), 0, -1):
            found.append([name for name in names if lengths[name] == many][0])
            names = self.below(found[-1])
        return tuple(found)

    def _chain_lengths(self):
        """For each name, how many names the longest chain from it on has."""
        lengths = {}
        # Names below another one stand in later layers.
        for layer in self.layers()[::-1]:
            for name in layer:
                lengths[name] = 1 + max([0] + [lengths[other] for other in self.below(name)])
        return lengths

    def apart(self):
        """The least of the greatest sets of names, none tied with or above another one."""
        sets = [()]
        for name in self.names:
            near = self.above(name) + self.below(name) + self._tied_with(name)
            sets = sets + [own + (name,) for own in sets if not any([other in near for other in own])]
        most = max([len(own) for own in sets])
        return min([own for own in sets if len(own) == most])

    def bound_above(self, names):
        """The least Turns above those of all these; raises NoTurns(name)."""
        found, *others = [self[name] for name in names]
        for turns in others:
            found = above_both(found, turns)
        return found

    def bound_below(self, names):
        """The greatest Turns below those of all these; raises NoTurns(name)."""
        found, *others = [self[name] for name in names]
        for turns in others:
            found = below_both(found, turns)
        return found


def _check_rows(rows):
    """Raises Known(name), OtherThings() unless all names are unlike, and all Turns of one size."""
    names = []
    for name, turns in rows:
        if name in names:
            raise Known(name)
        names.append(name)
    for name, turns in rows:
        check_size(turns, rows[0][1])


def _pairs_of(rows):
    """The pairs of names whose Turns are unlike, the first ones never worse."""
    return tuple([
        (name, other)
        for name, turns in rows
        for other, further in rows
        if turns != further and never_worse(turns, further)
    ])
