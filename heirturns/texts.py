"""Runs, lists and shares as texts, and read from them."""

from heirturns.errors import BadText
from heirturns.kinds import ascends, is_heir, is_name

NOTHING = "-"
DIGITS = "0123456789"
RUN_SIGN = "; "
LIST_SIGN = " > "
SHARE_SIGN = "+"


def runs_text(runs):
    """The text of these runs."""
    return _joined([f"{heir} {many}" for heir, many in runs], RUN_SIGN)


def list_text(likes):
    """The text of this list, the best thing first."""
    return _joined(likes, LIST_SIGN)


def share_text(share):
    """The text of this share."""
    return _joined(share, SHARE_SIGN)


def runs_from(text):
    """The runs so written; raises BadText(piece)."""
    runs = []
    for at, piece in enumerate(_pieces(text, RUN_SIGN)):
        heir, digits = piece[:1], piece[2:]
        if not is_heir(heir) or piece[1:2] != " " or not is_many(digits):
            raise BadText(at)
        if runs and runs[-1][0] == heir:
            raise BadText(at)
        runs.append((heir, int(digits)))
    return tuple(runs)


def list_from(text):
    """The list so written; raises BadText(piece)."""
    likes = []
    for at, piece in enumerate(_pieces(text, LIST_SIGN)):
        if not is_name(piece) or piece in likes:
            raise BadText(at)
        likes.append(piece)
    return tuple(likes)


def share_from(text):
    """The set of things so written; raises BadText(0)."""
    share = _pieces(text, SHARE_SIGN)
    if not all([is_name(word) for word in share]) or not ascends(share):
        raise BadText(0)
    return tuple(share)


def _joined(words, sign):
    return sign.join(words) or NOTHING


def _pieces(text, sign):
    return [] if text == NOTHING else text.split(sign)


def is_many(digits):
    """Whether these are the digits of a number from 1, without a needless 0."""
    # Not isdigit and int: both take digits that are not 0 to 9, int signs too.
    return digits[:1] not in ("", "0") and all([digit in DIGITS for digit in digits])
