import random
import unittest

from heirturns import board as board_file, turns as turns_file
from heirturns.board import Board
from heirturns.errors import Known, NoPlace, NothingDone, NoTurns, OtherThings
from heirturns.turns import Turns, turns_of
from tests.calls import Calls
from tests.examples import check_examples
from tests.models import GREAT, NAMES, UNFIT, is_row_above, lists, plain_share, rows_to, times

EXAMPLES = r'''
    >>> board = Board()
    >>> board.put("fair", Turns.of("a 1; b 2; a 1")), board.put("even", Turns.of("a 1; b 1; a 1; b 1")), board.like("a", ("w", "x", "y", "z")), board.names, len(board), board.deeds, board.hers, board.his
    (None, None, None, ('even', 'fair'), 2, 3, ('w', 'x', 'y', 'z'), None)
    >>> board.like("b", ("x", "w", "y", "z")), board.shares("fair"), board.shares("even"), board.never_worse("even", "fair"), board.never_worse("fair", "even"), board.best_for_her(4), board.best_for_her(7)
    (None, (('w', 'z'), ('x', 'y')), (('w', 'y'), ('x', 'z')), True, False, ('even',), ())
    >>> board.exchange("fair", 3), board["fair"] == board["even"], board.best_for_her(4), board.add("fair", 1, "b", 2), board["fair"].text, board.remove("fair", 2, 3), board["fair"].text
    (None, True, ('even', 'fair'), None, 'b 2; a 1; b 1; a 1; b 1', None, 'b 1; a 1; b 1')
    >>> copy = board.twin()
    >>> board.undo(), board["fair"].text, copy == board, copy.deeds, board.deeds, copy.his
    (None, 'b 2; a 1; b 1; a 1; b 1', False, 0, 6, ('x', 'w', 'y', 'z'))
    >>> board.rename("fair", "late"), board.drop("even"), board.names, board.undo(), board.undo(), board.names
    (None, None, ('late',), None, None, ('even', 'fair'))
    >>> board.exchange("even", 4)
    raises NoPlace(number=4)
    >>> board.rename("fair", "even")
    raises Known(name='even')
    >>> board.never_worse("even", "late")
    raises NoTurns(name='late')
    >>> board.shares("fair")
    raises OtherThings()
'''

SOME_NAMES = ("fig", "ash", "elm", "a", "abcdefgh")


class Model:
    """What the document says of a Board, done plainly to rows of heirs; a deed that is refused tells how."""

    def __init__(self, rows=(), hers=None, his=None):
        self.rows, self.hers, self.his = dict(rows), hers, his

    def after(self, word, name, *told):
        """The Model behind the deed; the error and its value if it is refused."""
        if word == "like":
            return Model(self.rows, *((told[0], self.his) if name == "a" else (self.hers, told[0])))
        if word == "put":
            return (Known, {"name": name}) if name in self.rows else self.with_row(name, told[0])
        if name not in self.rows:
            return NoTurns, {"name": name}
        return getattr(self, word)(name, self.rows[name], *told)

    def with_row(self, name, row):
        return Model({**self.rows, name: row}, self.hers, self.his)

    def drop(self, name, row):
        return Model({own: other for own, other in self.rows.items() if own != name}, self.hers, self.his)

    def rename(self, name, row, new):
        return (Known, {"name": new}) if new in self.rows else self.drop(name, row).with_row(new, row)

    def add(self, name, row, place, heir, number):
        if place not in range(1, len(row) + 2):
            return NoPlace, {"number": place}
        return self.with_row(name, row[:place - 1] + (heir,) * number + row[place - 1:])

    def remove(self, name, row, place, number):
        if place < 1 or len(row[place - 1:]) < number:
            return NoPlace, {"number": place}
        return self.with_row(name, row[:place - 1] + row[place - 1 + number:])

    def exchange(self, name, row, place):
        if place not in range(1, len(row)):
            return NoPlace, {"number": place}
        return self.with_row(name, row[:place - 1] + (row[place], row[place - 1]) + row[place + 1:])


def some_deed(rng):
    """A deed of some kind; it may be refused."""
    word = rng.choice(("put", "put", "put", "drop", "rename", "add", "add", "remove", "exchange", "exchange", "like"))
    name, place, number = rng.choice(SOME_NAMES), rng.randint(-1, 7), rng.randint(1, 3)
    if word == "like":
        order = NAMES[:rng.randint(0, 5)]
        return word, rng.choice("ab"), tuple(rng.sample(order, len(order)))
    values = {"put": [tuple(rng.choice("ab") for at in range(rng.choice((0, 3, 4, 4, 5))))], "drop": [],
              "rename": [rng.choice(SOME_NAMES)], "add": [place, rng.choice("ab"), number], "remove": [place, number],
              "exchange": [place]}
    return (word, name, *values[word])


def do(board, word, name, *told):
    """Does the deed to the Board."""
    if word == "put":
        return board.put(name, turns_of(told[0]))
    return getattr(board, word)(name, *told)


def state(board):
    """All that a Board tells without being asked of a name."""
    return board.names, board.hers, board.his, board.deeds, len(board), [board[name].runs for name in board.names]


def board_of(rows=(), hers=None, his=None):
    board = Board()
    for name, row in dict(rows).items():
        board.put(name, turns_of(row))
    if hers is not None:
        board.like("a", hers)
    if his is not None:
        board.like("b", his)
    return board


class BoardCalls(Calls):
    def check_board(self, board, model, deeds):
        names = tuple(sorted(model.rows))
        self.assertEqual(state(board), (names, model.hers, model.his, deeds, len(names),
                                        [turns_of(model.rows[name]).runs for name in names]))
        for name in SOME_NAMES:
            self.assertIs(name in board, name in model.rows)
        self.assert_like(board, board_of(model.rows, model.hers, model.his))

    def check_questions(self, board, model):
        for one in SOME_NAMES:
            self.check_shares(board, model, one)
            for other in SOME_NAMES:
                self.check_never_worse(board, model, one, other)
        for number in range(-1, 9):
            own = {name: row for name, row in model.rows.items() if len(row) == number}
            best = [name for name, row in own.items() if all(is_row_above(row, other) for other in own.values())]
            self.assertEqual(board.best_for_her(number), tuple(sorted(best)))

    def check_shares(self, board, model, name):
        row, hers, his = model.rows.get(name), model.hers, model.his
        if row is None:
            self.assert_raises(NoTurns, {"name": name}, board.shares, name)
        elif hers is None or his is None or sorted(hers) != sorted(his) or len(hers) != len(row):
            self.assert_raises(OtherThings, {}, board.shares, name)
        else:
            both = plain_share(row, hers, his), plain_share(row, hers, his, "b")
            self.assertEqual(board.shares(name), both)

    def check_never_worse(self, board, model, one, other):
        missing = [name for name in (one, other) if name not in model.rows]
        if missing:
            self.assert_raises(NoTurns, {"name": missing[0]}, board.never_worse, one, other)
        elif len(model.rows[one]) != len(model.rows[other]):
            self.assert_raises(OtherThings, {}, board.never_worse, one, other)
        else:
            self.assertIs(board.never_worse(one, other), is_row_above(model.rows[one], model.rows[other]))


class BoardTest(BoardCalls):
    def test_examples(self):
        self.assertEqual(check_examples(self, {**vars(turns_file), **vars(board_file)}, EXAMPLES), 9)

    def test_deeds_of_each_kind_and_each_undone(self):
        rng = random.Random(1)
        for turn in range(25):
            board, models = Board(), [Model()]
            while len(models) < 30:
                deed = some_deed(rng)
                behind = models[-1].after(*deed)
                if isinstance(behind, Model):
                    self.assertIsNone(do(board, *deed))
                    models.append(behind)
                else:
                    self.assert_raises(*behind, do, board, *deed)
                self.check_board(board, models[-1], len(models) - 1)
                self.check_questions(board, models[-1])
                if rng.random() < 0.15 and len(models) > 1:
                    self.assertIsNone(board.undo())
                    models.pop()
            self.undo_all(board, models)

    def undo_all(self, board, models):
        twin, before = board.twin(), state(board)
        while len(models) > 1:
            models.pop()
            self.assertIsNone(board.undo())
            self.check_board(board, models[-1], len(models) - 1)
        self.assert_raises(NothingDone, {}, board.undo)
        self.assert_like(board, Board())
        self.assertEqual(state(twin), before[:3] + (0,) + before[4:])

    def test_at_first(self):
        board = Board()
        self.assertEqual(state(board), ((), None, None, 0, 0, []))
        self.assert_raises(NothingDone, {}, board.undo)
        self.assert_raises(NoTurns, {"name": "fig"}, board.__getitem__, "fig")
        self.assertEqual(board.best_for_her(0), ())
        self.assert_like(board, Board())

    def test_undo_tells_of_deeds_that_change_nothing(self):
        board = board_of({"fig": "aab"})
        board.exchange("fig", 1)
        board.like("a", ())
        board.like("a", ())
        self.assertEqual(board.deeds, 4)
        for deeds in (3, 2, 1):
            board.undo()
            self.assertEqual((board.deeds, board["fig"].text), (deeds, "a 2; b 1"))
        self.assertIsNone(board.hers)

    def test_refused_deeds_are_none(self):
        board = board_of({"fig": "abb", "ash": "", "elm": "ba"}, ("x", "y"), ("y", "x"))
        before, twin = state(board), board.twin()
        for name in ("oak", "figs", "fi"):
            for call, told in (("drop", {}), ("rename", {"new": "fig"}), ("rename", {"new": name}),
                               ("add", {"place": 0, "heir": "a", "number": 1}), ("remove", {"place": 0, "number": 9}),
                               ("exchange", {"place": 0}), ("shares", {}), ("never_worse", {"to": "fig"}),
                               ("never_worse", {"to": "zz"})):
                self.assert_refuses(NoTurns, {"name": name}, getattr(board, call), name=name, **told)
            self.assert_refuses(NoTurns, {"name": name}, board.never_worse, name="ash", to=name)
            self.assert_raises(NoTurns, {"name": name}, board.__getitem__, name)
        for name, new in (("fig", "fig"), ("fig", "ash"), ("ash", "elm")):
            self.assert_refuses(Known, {"name": new}, board.rename, name=name, new=new)
            self.assert_refuses(Known, {"name": new}, board.put, name=new, turns=Turns.of("a 1"))
        for place in (-GREAT, -1, 0, 5, 6, GREAT):
            self.assert_refuses(NoPlace, {"number": place}, board.add, name="fig", place=place, heir="a", number=1)
        for place, number in ((0, 1), (-1, 1), (-1, 2), (0, 4), (1, 4), (2, 3), (3, 2), (4, 1), (1, GREAT), (GREAT, 1)):
            self.assert_refuses(NoPlace, {"number": place}, board.remove, name="fig", place=place, number=number)
        for place in (-GREAT, -1, 0, 3, 4, GREAT):
            self.assert_refuses(NoPlace, {"number": place}, board.exchange, name="fig", place=place)
        self.assert_refuses(NoPlace, {"number": 1}, board.remove, name="ash", place=1, number=1)
        self.assert_refuses(NoPlace, {"number": 1}, board.exchange, name="ash", place=1)
        self.assertEqual(state(board), before)
        self.assert_like(board, twin)
        board.undo()
        self.assertEqual((board.deeds, board.his), (4, None))

    def test_great_numbers(self):
        board = board_of({"fig": "ab"})
        board.add("fig", 2, "a", GREAT)
        self.assertEqual(board["fig"].runs, (("a", GREAT + 1), ("b", 1)))
        board.add("fig", 3, "b", GREAT)
        self.assertEqual(board["fig"].runs, (("a", 2), ("b", GREAT), ("a", GREAT - 1), ("b", 1)))
        board.exchange("fig", GREAT + 2)
        self.assertEqual(board["fig"].runs, (("a", 2), ("b", GREAT - 1), ("a", 1), ("b", 1), ("a", GREAT - 2), ("b", 1)))
        board.remove("fig", 3, GREAT - 1)
        self.assertEqual(board["fig"].runs, (("a", 3), ("b", 1), ("a", GREAT - 2), ("b", 1)))
        board.remove("fig", 5, GREAT - 1)
        self.assertEqual(board["fig"].text, "a 3; b 1")
        board.remove("fig", 1, 4)
        self.assertEqual((board["fig"], board.deeds), (Turns(), 7))
        board.put("one", times(turns_of("abba"), GREAT))
        board.put("other", times(turns_of("abab"), GREAT))
        self.assertEqual(board.best_for_her(4 * GREAT), ("other",))
        self.assertIs(board.never_worse("one", "other"), False)

    def test_many_turns_and_deeds(self):
        board = Board()
        names = [one + other for one in "abcd" for other in "abcde"]
        for name in reversed(names):
            board.put(name, Turns.of("a 1; b 1"))
        self.assertEqual((board.names, len(board), board.deeds), (tuple(names), 20, 20))
        self.assertEqual(board.best_for_her(2), tuple(names))
        for name in names:
            board.exchange(name, 1)
            board.rename(name, name[::-1] + "z")
        self.assertEqual((board.deeds, board["aaz"].text), (60, "b 1; a 1"))
        for deed in range(60):
            board.undo()
        self.assertEqual((board.deeds, len(board)), (0, 0))

    def test_best_for_her(self):
        board = board_of({"one": "abba", "two": "baab", "three": "ab", "four": "", "five": "bbaa"})
        self.assertEqual([board.best_for_her(number) for number in (4, 2, 0, 1, 3, -1, -GREAT, GREAT)],
                         [(), ("three",), ("four",), (), (), (), (), ()])
        board.put("six", turns_of("abab"))
        self.assertEqual(board.best_for_her(4), ("six",))
        board.put("eight", turns_of("abab"))
        self.assertEqual(board.best_for_her(4), ("eight", "six"))

    def test_shares_of_all_short_rows(self):
        for row in rows_to(4):
            for his in lists(len(row))[::2]:
                hers = NAMES[:len(row)]
                board = board_of({"fig": row}, hers, his)
                self.assertEqual(board.shares("fig"), (plain_share(row, hers, his), plain_share(row, hers, his, "b")))

    def test_shares_are_refused(self):
        for hers, his in ((None, None), (("x",), None), (None, ("x",)), ((), None)):
            board = board_of({"fig": "a", "ash": ""}, hers, his)
            for name in ("fig", "ash"):
                self.assert_refuses(OtherThings, {}, board.shares, name=name)
            self.assert_refuses(NoTurns, {"name": "oak"}, board.shares, name="oak")
        for told in UNFIT:
            board = board_of({}, told["hers"], told["his"])
            board.put("fig", told["turns"])
            self.assert_refuses(OtherThings, {}, board.shares, name="fig")
            self.assert_refuses(NoTurns, {"name": "oak"}, board.shares, name="oak")
        board = board_of({"fig": ""}, (), ())
        self.assert_gives(((), ()), board.shares, name="fig")

    def test_values_and_ways_of_calling(self):
        board = Board()
        board.put(turns=Turns.of("a 1; b 2; a 1"), name="fair")
        board.put(name="even", turns=Turns.of("a 1; b 1"))
        board.add(name="even", place=3, heir="b", number=2)
        board.remove(number=1, place=1, name="even")
        board.add("even", 1, "a", 1)
        board.exchange(place=1, name="even")
        board.rename(new="late", name="even")
        board.like(likes=["w", "x", "y", "z"], heir="a")
        board.like("b", ["x", "w", "y", "z"])
        self.assertEqual(state(board)[:5], (("fair", "late"), ("w", "x", "y", "z"), ("x", "w", "y", "z"), 9, 2))
        self.assertEqual(board["late"].text, "b 1; a 1; b 2")
        self.assert_gives((("w", "z"), ("x", "y")), board.shares, name="fair")
        self.assert_gives(True, board.never_worse, name="fair", to="fair")
        self.assert_gives(False, board.never_worse, name="late", to="fair")
        self.assert_gives(("fair",), board.best_for_her, number=4)
        board.drop(name="late")
        self.assertEqual(board.names, ("fair",))

    def test_what_is_handed_in_is_copied(self):
        likes, board = ["x", "y"], Board()
        board.like("a", likes)
        board.like("b", likes)
        likes.reverse()
        likes.append("z")
        self.assertEqual((board.hers, board.his), (("x", "y"), ("x", "y")))
        self.assertIs(type(board.hers), tuple)

    def test_twins_share_nothing(self):
        board = board_of({"fig": "abb", "ash": "ba"}, ("x", "y"), ("y", "x"))
        twin, before = board.twin(), state(board)
        self.assert_like(twin, board)
        self.assertEqual((twin.deeds, board.deeds), (0, 4))
        self.assert_raises(NothingDone, {}, twin.undo)
        for deed in (("put", "oak", ("a",)), ("drop", "fig"), ("rename", "ash", "elm"), ("add", "elm", 1, "b", 2),
                     ("remove", "elm", 1, 1), ("exchange", "elm", 1), ("like", "a", ()), ("like", "b", ("x", "y"))):
            do(twin, *deed)
            self.assertEqual(state(board), before)
            self.assert_unlike(board, [twin])
        for deed in range(8):
            twin.undo()
        self.assert_like(twin, board)
        twin, before = board.twin(), state(board.twin())
        board.undo()
        board.exchange("fig", 1)
        self.assertEqual(state(twin), before)

    def test_equal_whatever_can_be_undone(self):
        one, other = Board(), Board()
        one.put("fig", Turns.of("a 1; b 1"))
        one.put("ash", Turns())
        other.put("ash", Turns.of("b 1"))
        other.put("oak", Turns([["b", 1], ["a", 1]]))
        other.exchange("oak", 1)
        other.rename("oak", "fig")
        other.remove("ash", 1, 1)
        self.assert_like(one, other)
        one.like("a", ())
        self.assert_unlike(one, [other])
        other.like("b", ())
        self.assert_unlike(one, [other])
        one.like("b", ())
        other.like("a", ())
        self.assert_like(one, other)

    def test_unlike(self):
        rows = {"fig": "ab", "ash": "a"}
        board = board_of(rows, ("x", "y"), ("y", "x"))
        self.assert_unlike(board, [
            board_of(rows, ("x", "y"), ("x", "y")), board_of(rows, ("y", "x"), ("y", "x")), board_of(rows, ("x", "y")),
            board_of(rows), board_of({"fig": "ab"}, ("x", "y"), ("y", "x")), Board(), None, 0, 2, (), ("ash", "fig"),
            board_of({"fig": "a", "ash": "ab"}, ("x", "y"), ("y", "x")), Turns(), "", [board], rows,
            board_of({"fig": "ab", "elm": "a"}, ("x", "y"), ("y", "x")),
        ])

    def test_names_that_are_there(self):
        board = board_of({"fig": "ab"})
        for name in ("fi", "figs", "f", "", "Fig", "ash"):
            self.assertIs(name in board, False)
        self.assertIs("fig" in board, True)

    def test_no_setters_and_no_iteration(self):
        for board in (Board(), board_of({"fig": "ab"}, (), ())):
            self.assert_no_setters(board, ("names", "hers", "his", "deeds"))
            self.assert_no_iteration(board)
            with self.assertRaises(TypeError):
                board["fig"] = Turns()


if __name__ == "__main__":
    unittest.main()
