"""A desk that answers requests, one a line, about a board of turns."""

from heirturns.best import best_share
from heirturns.board import Board, told_by
from heirturns.chances import chance_of
from heirturns.errors import BadLine, BadText, Known, NoPlace, NoThing, NothingDone, NoTurns, OtherThings
from heirturns.kinds import is_heir, is_name
from heirturns.known import played_shares
from heirturns.picks import taken
from heirturns.texts import NOTHING, is_many, list_from, list_text, share_text
from heirturns.turns import Turns

DONE = "done"


def _name_from(word):
    if not is_name(word):
        raise BadText(0)
    return word


def _heir_from(word):
    if not is_heir(word):
        raise BadText(0)
    return word


def _number_from(word):
    if word != "0" and not is_many(word):
        raise BadText(0)
    return int(word)


def _many_from(word):
    if not is_many(word):
        raise BadText(0)
    return int(word)


def _turns_from(text):
    return Turns.of(text)


def _likes_from(text):
    return list_from(text)


def _turns(board, name, turns):
    board.put(name, turns)
    return DONE


def _drop(board, name):
    board.drop(name)
    return DONE


def _rename(board, name, new):
    board.rename(name, new)
    return DONE


def _add(board, name, place, heir, number):
    board.add(name, place, heir, number)
    return DONE


def _remove(board, name, place, number):
    board.remove(name, place, number)
    return DONE


def _exchange(board, name, place):
    board.exchange(name, place)
    return DONE


def _like(board, heir, likes):
    board.like(heir, likes)
    return DONE


def _undo(board):
    board.undo()
    return DONE


def _names(board):
    return " ".join(board.names)


def _runs(board, name):
    return board[name].text


def _size(board, name):
    return str(board[name].size)


def _list(board, heir):
    likes = board.hers if heir == "a" else board.his
    return "none" if likes is None else list_text(likes)


def _never(board, name, to):
    return "yes" if board.never_worse(name, to) else "no"


def _tops(board, number):
    return " ".join(board.best_for_her(number))


def _shares(board, name):
    return _both_texts(board.shares(name))


def _taken(board, name):
    turns, hers, his = told_by(board, name)
    return list_text(taken(turns, hers, his))


def _best(board, name):
    turns, hers, his = told_by(board, name)
    return share_text(best_share(turns, hers, his))


def _well(board, name):
    turns, hers, his = told_by(board, name)
    return _both_texts(played_shares(turns, hers, his))


def _chance(board, name, wanted):
    turns = board[name]
    if board.hers is None:
        raise OtherThings()
    top, bottom = chance_of(turns, board.hers, wanted)
    return f"{top}/{bottom}"


def _both_texts(both):
    mine, yours = both
    return f"{share_text(mine)} {share_text(yours)}"


# What stands behind the first word of a request; RUNS and LIST go on to the end of the line.
FORMS = {
    "turns": ("NAME", "RUNS"),
    "drop": ("NAME",),
    "rename": ("NAME", "NAME"),
    "add": ("NAME", "NUMBER", "HEIR", "MANY"),
    "remove": ("NAME", "NUMBER", "MANY"),
    "exchange": ("NAME", "NUMBER"),
    "like": ("HEIR", "LIST"),
    "undo": (),
    "names": (),
    "runs": ("NAME",),
    "size": ("NAME",),
    "list": ("HEIR",),
    "never": ("NAME", "NAME"),
    "tops": ("NUMBER",),
    "shares": ("NAME",),
    "taken": ("NAME",),
    "best": ("NAME",),
    "well": ("NAME",),
    "chance": ("NAME", "NAME"),
}
READERS = {
    "NAME": _name_from,
    "HEIR": _heir_from,
    "NUMBER": _number_from,
    "MANY": _many_from,
    "RUNS": _turns_from,
    "LIST": _likes_from,
}
ACTIONS = {
    "turns": _turns,
    "drop": _drop,
    "rename": _rename,
    "add": _add,
    "remove": _remove,
    "exchange": _exchange,
    "like": _like,
    "undo": _undo,
    "names": _names,
    "runs": _runs,
    "size": _size,
    "list": _list,
    "never": _never,
    "tops": _tops,
    "shares": _shares,
    "taken": _taken,
    "best": _best,
    "well": _well,
    "chance": _chance,
}


def answers(text):
    """The answers to the lines of the text, one for each; raises BadLine(number)."""
    lines = text.split("\n") if text != "" else []
    requests = [_numbered_request(number, line) for number, line in enumerate(lines)]
    board = Board()
    return [_answer(board, word, told) for word, told in requests]


def _numbered_request(number, line):
    """The request that stands in the line with this number; raises BadLine(number)."""
    try:
        return _request(line)
    except BadText:
        raise BadLine(number)


def _request(line):
    """The first word of the line, and the values behind it; raises BadText(0) if it is no request."""
    word = line.split(" ")[0]
    if word not in FORMS:
        raise BadText(0)
    form = FORMS[word]
    parts = line.split(" ", len(form))
    if parts[0] != word or len(parts) != len(form) + 1:
        raise BadText(0)
    return word, [_value(kind, part) for kind, part in zip(form, parts[1:])]


def _value(kind, part):
    """What is so written; raises BadText(piece) if it is not of this kind."""
    reader = READERS[kind]
    return reader(part)


def _answer(board, word, told):
    """Does the request; the answer to it."""
    action = ACTIONS[word]
    try:
        return action(board, *told) or NOTHING
    except NoTurns:
        return "refused NoTurns"
    except Known:
        return "refused Known"
    except NoPlace:
        return "refused NoPlace"
    except NoThing:
        return "refused NoThing"
    except OtherThings:
        return "refused OtherThings"
    except NothingDone:
        return "refused NothingDone"
