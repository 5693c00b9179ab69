"""What the other files ask of values: heirs, numbers, names, sets."""


def is_heir(thing):
    """Whether thing is "a" (Ann) or "b" (Bob)."""
    return thing in ("a", "b")


def is_number(thing):
    """Whether thing is an integer that is not True or False."""
    return isinstance(thing, int) and not isinstance(thing, bool)


def is_name(thing):
    """Whether thing is a string of 1 to 8 letters a to z."""
    if not isinstance(thing, str) or not 1 <= len(thing) <= 8:
        return False
    return all(["a" <= letter <= "z" for letter in thing])


def ascends(words):
    """Whether each of these strings is greater than the one ahead of it."""
    return all([one < other for one, other in zip(words, words[1:])])
