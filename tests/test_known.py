import unittest

from heirturns import known as known_file, picks as picks_file, turns as turns_file
from heirturns.best import best_share
from heirturns.errors import NoThing, OtherThings
from heirturns.known import gains, good_takings, played, played_shares, shares_behind
from heirturns.takes import can_take
from heirturns.turns import Turns, turns_of
from tests.calls import Calls
from tests.examples import check_examples
from tests.models import NAMES, UNFIT, is_worse, lists, plain_share, plain_taken, plain_worse_numbers, rows_to

EXAMPLES = r'''
    >>> turns, hers, his = turns_of(("a", "b", "a")), ("x", "y", "z"), ("y", "z", "x")
    >>> played(turns, hers, his), played_shares(turns, hers, his), taken(turns, hers, his), gains(turns, hers, his)
    (('y', 'z', 'x'), (('x', 'y'), ('z',)), ('x', 'y', 'z'), ((2,), ()))
    >>> shares_behind(turns, hers, his, "x"), shares_behind(turns, hers, his, "z"), good_takings(turns, hers, his), played(turns, hers, hers)
    ((('x', 'z'), ('y',)), (('x', 'z'), ('y',)), ('y',), ('x', 'y', 'z'))
    >>> mate = turns_of(("b", "a", "b"))
    >>> played(mate, ("y", "z", "x"), ("x", "y", "z")), gains(mate, ("y", "z", "x"), ("x", "y", "z")), good_takings(mate, ("y", "z", "x"), ("x", "y", "z")), played(Turns(), (), ()), good_takings(Turns(), (), ()), good_takings(turns_of(("a",)), ("x",), ("x",))
    (('y', 'z', 'x'), ((), (1,)), ('y',), (), (), ('x',))
    >>> shares_behind(turns, hers, his, "q")
    raises NoThing(name='q')
    >>> played(turns, hers, ("x", "y"))
    raises OtherThings()
'''


def well_played(row, hers, his):
    """What is taken if both play well, as the document tells it."""
    left, found = list(hers), []
    for heir in reversed(row):
        found.insert(0, max(left, key=(his if heir == "a" else hers).index))
        left.remove(found[0])
    return tuple(found)


def sets_of(row, names):
    """The sets of both, by heir."""
    return {who: tuple(sorted(name for heir, name in zip(row, names) if heir == who)) for who in "ab"}


def played_behind(row, hers, his, gone):
    """What is taken in all if these are taken first, and both play well from then on."""
    left = [tuple(name for name in order if name not in gone) for order in (hers, his)]
    return tuple(gone) + well_played(row[len(gone):], *left)


def games(most):
    """All rows to so many turns, with a list of hers and all lists of his."""
    return [(row, turns_of(row), NAMES[:len(row)], his) for row in rows_to(most) for his in lists(len(row))]


class KnownTest(Calls):
    def test_examples(self):
        names = {**vars(turns_file), **vars(picks_file), **vars(known_file)}
        self.assertEqual(check_examples(self, names, EXAMPLES), 5)

    def test_from_the_last_turn_to_the_first(self):
        for row, turns, hers, his in games(4):
            names = well_played(row, hers, his)
            both = sets_of(row, names)
            self.assertEqual(played(turns, hers, his), names)
            self.assertEqual(played_shares(turns, hers, his), (both["a"], both["b"]))

    def test_no_other_thing_at_one_turn_is_better(self):
        for row, turns, hers, his in games(4):
            names = played(turns, hers, his)
            both = sets_of(row, names)
            for at, heir in enumerate(row):
                order = hers if heir == "a" else his
                for name in names[at + 1:]:
                    other = sets_of(row, played_behind(row, hers, his, names[:at] + (name,)))
                    self.assertIsNone(is_worse(order, both[heir], other[heir]))

    def test_her_share_can_be_taken_and_best_share_is_never_worse(self):
        for row, turns, hers, his in games(5)[::3]:
            share = played_shares(turns, hers, his)[0]
            self.assertTrue(can_take(turns, his, share))
            self.assertIsNone(is_worse(hers, best_share(turns, hers, his), share))

    def test_one_list_of_both(self):
        for row in rows_to(5):
            order = ("oak", "ash", "yew", "elm", "bay")[:len(row)]
            self.assertEqual(played(turns_of(row), order, order), plain_taken(row, order, order))
            self.assertEqual(gains(turns_of(row), order, order), ((), ()))

    def test_first_takings(self):
        for row, turns, hers, his in games(4):
            both = sets_of(row, well_played(row, hers, his))
            good = []
            for name in hers:
                told = sets_of(row, played_behind(row, hers, his, (name,)))
                self.assertEqual(shares_behind(turns, hers, his, name), (told["a"], told["b"]))
                if told[row[0]] == both[row[0]]:
                    good.append(name)
            self.assertEqual(good_takings(turns, hers, his), tuple(sorted(good)))

    def test_gains(self):
        for row, turns, hers, his in games(4):
            well, plain = sets_of(row, well_played(row, hers, his))["a"], plain_share(row, hers, his)
            told = plain_worse_numbers(hers, plain, well), plain_worse_numbers(hers, well, plain)
            self.assertEqual(gains(turns, hers, his), told)

    def test_twelve_things(self):
        for word in ("ababababbaab", "bbaabbaabbaa", "aaaaaabbbbbb", "b" * 12):
            for his in (NAMES, NAMES[::-1], NAMES[4:] + NAMES[:4]):
                turns = turns_of(tuple(word))
                self.assertEqual(played(turns, NAMES, his), well_played(word, NAMES, his))
                self.assertIn(played(turns, NAMES, his)[0], good_takings(turns, NAMES, his))

    def test_without_things(self):
        none = {"turns": Turns(), "hers": (), "his": ()}
        self.assert_gives((), played, **none)
        self.assert_gives(((), ()), played_shares, **none)
        self.assert_gives((), good_takings, **none)
        self.assert_gives(((), ()), gains, **none)
        self.assert_refuses(NoThing, {"name": "oak"}, shares_behind, **none, name="oak")

    def test_values_and_ways_of_calling(self):
        told = {"turns": Turns.of("b 1; a 1; b 1; a 1"), "hers": ("oak", "fig", "yew", "ash"),
                "his": ("fig", "oak", "ash", "yew")}
        self.assert_gives(("fig", "oak", "ash", "yew"), played, **told)
        self.assert_gives((("oak", "yew"), ("ash", "fig")), played_shares, **told)
        self.assert_gives((("oak", "yew"), ("ash", "fig")), shares_behind, **told, name="fig")
        self.assert_gives((("ash", "oak"), ("fig", "yew")), shares_behind, **told, name="yew")
        self.assert_gives(("ash", "fig"), good_takings, **told)
        self.assert_gives(((), ()), gains, **told)
        told = {"turns": Turns.of("a 1; b 1; a 1"), "hers": ("oak", "fig", "yew"), "his": ("fig", "yew", "oak")}
        self.assert_gives(((2,), ()), gains, **told)
        self.assert_gives(("fig", "yew", "oak"), played, **told)
        told = {"turns": Turns.of("b 1; a 1; b 1"), "hers": told["his"], "his": told["hers"]}
        self.assert_gives(((), (1,)), gains, **told)

    def test_things_on_no_list(self):
        told = {"turns": Turns.of("b 1; a 1"), "hers": ("oak", "fig"), "his": ("fig", "oak")}
        for name in ("yew", "a", "oa"):
            self.assert_refuses(NoThing, {"name": name}, shares_behind, **told, name=name)

    def test_other_things_ahead_of_all_else(self):
        for told in UNFIT:
            for call in (played, played_shares, good_takings, gains):
                self.assert_refuses(OtherThings, {}, call, **told)
            for name in ("fig", "zz"):
                self.assert_refuses(OtherThings, {}, shares_behind, **told, name=name)


if __name__ == "__main__":
    unittest.main()
