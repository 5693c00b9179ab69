"""Rows of turns of two heirs, told by runs of turns of one heir."""

from heirturns.errors import BadRun, NoNumber, NoPlace, OtherThings
from heirturns.kinds import is_heir, is_number
from heirturns.texts import runs_from, runs_text


class Turns:
    """A row of turns, numbered from 1; it does not change."""

    def __init__(self, runs=()):
        self._runs = _put_together(runs)

    @staticmethod
    def of(text):
        """The Turns with this text; raises BadText(piece)."""
        return Turns(runs_from(text))

    @property
    def runs(self):
        """The pairs (heir, many), no neighbours with the same heir."""
        return self._runs

    @property
    def size(self):
        """How many turns there are."""
        return sum([many for heir, many in self._runs])

    @property
    def hers(self):
        """How many turns are Ann's."""
        return sum([many for heir, many in self._runs if heir == "a"])

    @property
    def his(self):
        """How many turns are Bob's."""
        return sum([many for heir, many in self._runs if heir == "b"])

    @property
    def ends(self):
        """Behind how many turns from the beginning each run ends."""
        found = []
        end = 0
        for heir, many in self._runs:
            end = end + many
            found.append(end)
        return tuple(found)

    @property
    def text(self):
        """The runs as a text."""
        return runs_text(self._runs)

    def __len__(self):
        return len(self._runs)

    def __getitem__(self, at):
        """The heir of the turn with this number; raises NoPlace(number)."""
        behind = 0
        for heir, many in self._runs:
            if behind < at <= behind + many:
                return heir
            behind = behind + many
        raise NoPlace(at)

    def __iter__(self):
        # Without this, Python would iterate by __getitem__.
        raise TypeError("Turns are not iterated over")

    def __eq__(self, other):
        return isinstance(other, Turns) and self._runs == other._runs

    def __add__(self, other):
        """The turns of one, then those of other."""
        return Turns(self._runs + other._runs)


def _put_together(runs):
    """The runs with neighbours of one heir added; raises BadRun(place)."""
    found = []
    for place, (heir, many) in enumerate(runs):
        if not is_heir(heir) or many < 1:
            raise BadRun(place)
        if found and found[-1][0] == heir:
            found[-1] = (heir, found[-1][1] + many)
        else:
            found.append((heir, many))
    return tuple(found)


def is_runs(thing):
    """Whether thing is runs, of whatever length."""
    if not isinstance(thing, tuple) or not all([_is_run(pair) for pair in thing]):
        return False
    return all([one[0] != other[0] for one, other in zip(thing, thing[1:])])


def _is_run(thing):
    if not isinstance(thing, tuple) or len(thing) != 2:
        return False
    heir, many = thing
    return is_heir(heir) and is_number(many) and many >= 1


def ahead(turns, number):
    """How many of the first so many turns are Ann's."""
    return first_part(turns, number).hers


def turn_of(turns, which):
    """The number of Ann's turn number which; raises NoNumber(which)."""
    return _number_of(turns, "a", which)


def his_turn_of(turns, which):
    """The number of Bob's turn number which; raises NoNumber(which)."""
    return _number_of(turns, "b", which)


def _number_of(turns, who, which):
    own = 0
    behind = 0
    for heir, many in turns.runs:
        if heir == who and own < which <= own + many:
            return behind + which - own
        if heir == who:
            own = own + many
        behind = behind + many
    raise NoNumber(which)


def first_part(turns, number):
    """The first so many turns."""
    found = []
    left = number
    for heir, many in turns.runs:
        if left > 0:
            found.append((heir, min(many, left)))
        left = left - many
    return Turns(found)


def rest_of(turns, number):
    """All turns but the first so many."""
    found = []
    gone = max(number, 0)
    for heir, many in turns.runs:
        if many > gone:
            found.append((heir, many - gone))
        gone = max(gone - many, 0)
    return Turns(found)


def backwards(turns):
    """The turns from the last one to the first."""
    return Turns(turns.runs[::-1])


def swapped(turns):
    """The turns with each one given to the other heir."""
    return Turns([("b" if heir == "a" else "a", many) for heir, many in turns.runs])


def heirs(turns):
    """The heirs of the turns, one by one."""
    return tuple([heir for heir, many in turns.runs for turn in range(many)])


def turns_of(heirs_told):
    """The Turns of these heirs, one by one."""
    return Turns([(heir, 1) for heir in heirs_told])


def exchanged(turns, place):
    """The turns number place and place + 1 exchanged; raises NoPlace(place)."""
    if place < 1 or place >= turns.size:
        raise NoPlace(place)
    both = Turns([(turns[place + 1], 1), (turns[place], 1)])
    return first_part(turns, place - 1) + both + rest_of(turns, place + 1)


def handed(turns, place):
    """The turn number place given to Ann; raises NoPlace(place)."""
    if place < 1 or place > turns.size:
        raise NoPlace(place)
    return first_part(turns, place - 1) + Turns([("a", 1)]) + rest_of(turns, place)


def check_size(one, other):
    """Raises OtherThings() if there are not as many turns of both."""
    if one.size != other.size:
        raise OtherThings()


def corners(one, other):
    """The set of 0 and all ends of both."""
    return tuple(sorted(set((0,) + one.ends + other.ends)))
