"""A board of turns with names, and the lists of both heirs."""

from heirturns.errors import Known, NoPlace, NothingDone, OtherThings
from heirturns.lattice import is_above
from heirturns.named import check_named, names_of, turns_named
from heirturns.picks import both_sets, taken
from heirturns.turns import Turns, exchanged, first_part, rest_of


class Board:
    """Turns with names, and two lists; what was done to them can be undone."""

    def __init__(self):
        # The pairs (name, Turns), ascending, and both lists.
        self._now = ((), None, None)
        self._past = []

    @property
    def names(self):
        """The set of the names."""
        return names_of(self._now[0])

    @property
    def hers(self):
        """Her list, None as long as it is not told."""
        return self._now[1]

    @property
    def his(self):
        """His list, None as long as it is not told."""
        return self._now[2]

    @property
    def deeds(self):
        """How many deeds can be undone now."""
        return len(self._past)

    def __len__(self):
        return len(self._now[0])

    def __contains__(self, name):
        return name in self.names

    def __getitem__(self, name):
        """The Turns with this name; raises NoTurns(name)."""
        return turns_named(self._now[0], name)

    def __iter__(self):
        # Without this, Python would iterate by __getitem__.
        raise TypeError("a Board is not iterated over")

    def __eq__(self, other):
        return isinstance(other, Board) and self._now == other._now

    def put(self, name, turns):
        """Puts Turns with this name; raises Known(name)."""
        if name in self:
            raise Known(name)
        self._become(_with_row(self._now[0], name, turns), self.hers, self.his)

    def drop(self, name):
        """Takes the Turns with this name away; raises NoTurns(name)."""
        check_named(self._now[0], name)
        self._become(_without_row(self._now[0], name), self.hers, self.his)

    def rename(self, name, new):
        """Gives the Turns a new name; raises NoTurns(name), Known(name)."""
        turns = self[name]
        if new in self:
            raise Known(new)
        self._become(_with_row(_without_row(self._now[0], name), new, turns), self.hers, self.his)

    def add(self, name, place, heir, number):
        """Puts so many turns of the heir in from this place on; raises NoTurns(name), NoPlace(number)."""
        turns = self[name]
        if not 1 <= place <= turns.size + 1:
            raise NoPlace(place)
        more = Turns([(heir, number)])
        self._change(name, first_part(turns, place - 1) + more + rest_of(turns, place - 1))

    def remove(self, name, place, number):
        """Takes so many turns out from this place on; raises NoTurns(name), NoPlace(number)."""
        turns = self[name]
        last = place + number - 1
        if place < 1 or last > turns.size:
            raise NoPlace(place)
        self._change(name, first_part(turns, place - 1) + rest_of(turns, last))

    def exchange(self, name, place):
        """Exchanges the turns at this place and the next one; raises NoTurns(name), NoPlace(number)."""
        self._change(name, exchanged(self[name], place))

    def like(self, heir, likes):
        """Tells the list of the heir."""
        if heir == "a":
            self._become(self._now[0], tuple(likes), self.his)
        else:
            self._become(self._now[0], self.hers, tuple(likes))

    def _change(self, name, turns):
        """Does the deed by which these are the Turns with this name."""
        self._become(_with_row(_without_row(self._now[0], name), name, turns), self.hers, self.his)

    def _become(self, rows, hers, his):
        """Does the deed by which all three become these."""
        self._past.append(self._now)
        self._now = (rows, hers, his)

    def undo(self):
        """Undoes the last deed; raises NothingDone()."""
        if not self._past:
            raise NothingDone()
        self._now = self._past.pop()

    def twin(self):
        """An equal Board without deeds to undo, which shares nothing with this one."""
        other = Board()
        other._now = self._now
        return other

    def shares(self, name):
        """The pair of the shares by these Turns; raises NoTurns(name), OtherThings()."""
        turns, hers, his = told_by(self, name)
        return both_sets(turns, taken(turns, hers, his))

    def never_worse(self, name, to):
        """Whether the Turns of name are never worse than those of to; raises NoTurns(name), OtherThings()."""
        return is_above(self[name], self[to])

    def best_for_her(self, number):
        """The set of the names of the Turns of so many turns never worse than all other ones."""
        rows = [(name, turns) for name, turns in self._now[0] if turns.size == number]
        return tuple([name for name, turns in rows if all([is_above(turns, further) for other, further in rows])])


def told_by(board, name):
    """The Turns with this name and both lists; raises NoTurns(name), OtherThings()."""
    turns, hers, his = board[name], board.hers, board.his
    if hers is None or his is None:
        raise OtherThings()
    return turns, hers, his


def _with_row(rows, name, turns):
    """The rows with one more, ascending; its name is new."""
    return tuple(sorted(list(rows) + [(name, turns)]))


def _without_row(rows, name):
    """The rows without that of this name."""
    return tuple([row for row in rows if row[0] != name])
