"""Runs examples that are written as DOC.md writes them."""

from heirturns import errors


def told(error):
    """The error as the document tells it: BadRun(place=1)."""
    values = ", ".join(f"{name}={value!r}" for name, value in vars(error).items())
    return f"{error.__class__.__name__}({values})"


def outcome(source, names):
    """What the document shows behind the expression."""
    try:
        return repr(eval(source, names))
    except errors.HeirError as error:
        return "raises " + told(error)


def check_examples(case, names, text):
    """Each line behind >>> gives the line below it; without one it is done.

    Returns how many lines were compared.
    """
    names = dict(names)
    lines = [line.strip() for line in text.strip().splitlines()] + [">>>"]
    compared = 0
    for line, below in zip(lines, lines[1:]):
        if not line.startswith(">>> "):
            continue
        source = line[4:]
        if below.startswith(">>>"):
            exec(source, names)
        else:
            case.assertEqual(outcome(source, names), below, source)
            compared += 1
    return compared
