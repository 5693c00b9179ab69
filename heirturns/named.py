"""Rows of turns with names: ascending pairs (name, Turns)."""

from heirturns.errors import NoTurns


def names_of(rows):
    """The set of the names."""
    return tuple([name for name, turns in rows])


def turns_named(rows, name):
    """The Turns with this name; raises NoTurns(name)."""
    for own, turns in rows:
        if own == name:
            return turns
    raise NoTurns(name)


def check_named(rows, name):
    """Raises NoTurns(name) if there are no Turns with this name."""
    if name not in names_of(rows):
        raise NoTurns(name)
