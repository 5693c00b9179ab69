import unittest
from itertools import product

from heirturns import best as best_file, picks as picks_file, turns as turns_file
from heirturns.best import best_order, best_share, is_best_share, plain_is_best, worse_places
from heirturns.errors import OtherThings
from heirturns.takes import all_takes
from heirturns.turns import Turns, turns_of
from tests.calls import Calls
from tests.examples import check_examples
from tests.models import (
    NAMES, UNFIT, best_first, is_worse, lists, plain_lost, plain_share, plain_worse_numbers, rows_to, subsets,
    takes_tried_out,
)

EXAMPLES = r'''
    >>> turns, hers, his = turns_of(tuple("abab")), tuple("wxyz"), tuple("xywz")
    >>> best_share(turns, hers, his), best_order(turns, hers, his), plain_is_best(turns, hers, his), worse_places(turns, hers, his), shares(turns, hers, his)[0]
    (('w', 'x'), ('x', 'w'), False, (2,), ('w', 'y'))
    >>> near = tuple("xwyz")
    >>> best_share(turns, hers, near), plain_is_best(turns, hers, near), worse_places(turns, hers, near), best_share(turns, hers, hers), is_best_share(turns, hers, his, ("w", "x")), is_best_share(turns, hers, near, ("w", "x"))
    (('w', 'y'), True, (), ('w', 'y'), True, False)
    >>> best_share(Turns(), (), ()), best_share(turns_of(("b", "a")), ("x", "y"), ("y", "x")), best_order(turns_of(("b", "b", "a")), ("x", "y", "z"), ("x", "y", "z"))
    ((), ('x',), ('z',))
    >>> best_share(turns, hers, tuple("wxy"))
    raises OtherThings()
'''

CALLS = (best_share, best_order, plain_is_best, worse_places)


class BestTest(Calls):
    def test_examples(self):
        names = {**vars(turns_file), **vars(picks_file), **vars(best_file)}
        self.assertEqual(check_examples(self, names, EXAMPLES), 4)

    def test_against_all_shares_that_can_be_taken(self):
        for row in rows_to(5):
            turns, his = turns_of(row), NAMES[:len(row)]
            can = takes_tried_out(row, his)
            for hers in lists(len(row)):
                found = best_share(turns, hers, his)
                self.assertIn(found, can)
                self.assertEqual([other for other in can if is_worse(hers, found, other)], [])

    def test_beside_plain_taking(self):
        for row in rows_to(4):
            turns, his = turns_of(row), NAMES[:len(row)][::-1]
            for hers in lists(len(row)):
                plain, best = plain_share(row, hers, his), best_share(turns, hers, his)
                order = best_order(turns, hers, his)
                self.assertEqual(order, tuple(best_first(his, best)))
                self.assertIsNone(plain_lost(row, his, order))
                self.assertIs(plain_is_best(turns, hers, his), plain == best)
                self.assertEqual(worse_places(turns, hers, his), plain_worse_numbers(hers, plain, best))
                self.assertEqual(worse_places(turns, hers, his) == (), plain == best)
                for share in subsets(his):
                    self.assertIs(is_best_share(turns, hers, his, share), share == best)

    def test_worth_most_by_all_prices_that_keep_her_list(self):
        for row in rows_to(4):
            turns, his = turns_of(row), NAMES[:len(row)]
            can = takes_tried_out(row, his)
            for hers in lists(len(row))[::5]:
                best = best_share(turns, hers, his)
                for told in product(range(3), repeat=len(row)):
                    price = dict(zip(hers, sorted(told, reverse=True)))
                    worth = [sum(price[name] for name in share) for share in can]
                    self.assertEqual(sum(price[name] for name in best), max(worth))

    def test_twelve_things(self):
        for word in ("ababababbaab", "bbaabbaabbaa", "aaaaaabbbbbb", "bbbbbbaaaaaa", "a" * 12, "b" * 12):
            turns, hers = turns_of(tuple(word)), NAMES
            for his in (NAMES, NAMES[::-1], NAMES[4:] + NAMES[:4]):
                found = best_share(turns, hers, his)
                can = all_takes(turns, his)
                self.assertIn(found, can)
                self.assertEqual([other for other in can if is_worse(hers, found, other)], [])

    def test_without_things(self):
        none = {"turns": Turns(), "hers": (), "his": ()}
        self.assert_gives((), best_share, **none)
        self.assert_gives((), best_order, **none)
        self.assert_gives(True, plain_is_best, **none)
        self.assert_gives((), worse_places, **none)
        self.assert_gives(True, is_best_share, **none, share=())
        self.assert_gives(False, is_best_share, **none, share=("oak",))

    def test_values_and_ways_of_calling(self):
        told = {"turns": Turns.of("a 1; b 1; a 1; b 1"), "hers": ("oak", "fig", "yew", "ash"),
                "his": ("fig", "yew", "oak", "ash")}
        self.assert_gives(("fig", "oak"), best_share, **told)
        self.assert_gives(("fig", "oak"), best_order, **told)
        self.assert_gives(False, plain_is_best, **told)
        self.assert_gives((2,), worse_places, **told)
        self.assert_gives(True, is_best_share, **told, share=("fig", "oak"))
        for share in ((), ("fig",), ("oak", "yew"), ("fig", "oak", "yew"), ("zz",), ("fig", "zz")):
            self.assert_gives(False, is_best_share, **told, share=share)
        alike = {**told, "his": told["hers"]}
        self.assert_gives(("oak", "yew"), best_share, **alike)
        self.assert_gives(("oak", "yew"), best_order, **alike)
        self.assert_gives(True, plain_is_best, **alike)
        self.assert_gives((), worse_places, **alike)

    def test_other_things_ahead_of_all_else(self):
        for told in UNFIT:
            for call in CALLS:
                self.assert_refuses(OtherThings, {}, call, **told)
            for share in ((), ("fig",), ("zz",)):
                self.assert_refuses(OtherThings, {}, is_best_share, **told, share=share)


if __name__ == "__main__":
    unittest.main()
