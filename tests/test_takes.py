import unittest
from itertools import permutations
from math import comb

from heirturns import takes as takes_file, turns as turns_file
from heirturns.errors import NoNumber, NoThing, OtherThings
from heirturns.shares import all_shares
from heirturns.takes import (
    all_takes, always_taken, can_take, ever_taken, how_many_orders, how_many_takes, is_order_for, lost_at, nth_take,
    number_of_take, order_for, take_against,
)
from heirturns.turns import Turns, backwards, turns_of
from tests.calls import Calls, nested
from tests.examples import check_examples
from tests.models import GREAT, NAMES, best_first, places_of, plain_lost, plain_orders, rows_to, subsets, takes_tried_out

EXAMPLES = r'''
    >>> turns, his = Turns.of("a 1; b 2; a 1"), ("w", "x", "y", "z")
    >>> can_take(turns, his, ("w", "z")), can_take(turns, his, ("w", "x")), take_against(turns, his, ("w", "x")), take_against(turns, his, ("w", "z")), take_against(turns, his, ())
    (True, False, 2, None, 0)
    >>> order_for(turns, his, ("w", "z")), is_order_for(turns, his, ("w", "z"), ("z", "w")), lost_at(turns, his, ("z", "w")), lost_at(turns, his, ("w", "z")), how_many_orders(turns, his, ("w", "z"))
    (('w', 'z'), False, 2, None, 1)
    >>> all_takes(turns, his), how_many_takes(turns), nth_take(turns, his, 0), number_of_take(turns, his, ("y", "z")), always_taken(turns, his), ever_taken(turns, his)
    ([('w', 'z'), ('x', 'z'), ('y', 'z')], 3, ('w', 'z'), 2, ('z',), ('w', 'x', 'y', 'z'))
    >>> late = Turns.of("b 1; a 2; b 1")
    >>> all_takes(late, his), how_many_orders(late, his, ("x", "y")), how_many_orders(late, his, ("w", "x")), order_for(late, his, ("w", "x")), always_taken(late, his), ever_taken(late, his)
    ([('x', 'y'), ('x', 'z'), ('y', 'z')], 2, 0, None, (), ('x', 'y', 'z'))
    >>> how_many_takes(Turns.of("a 50; b 50")), how_many_takes(Turns.of("b 50; a 50")), all_takes(Turns(), ())
    (100891344545564193334812497256, 1, [()])
    >>> lost_at(turns, his, ("w", "q"))
    raises NoThing(name='q')
    >>> nth_take(turns, his, 3)
    raises NoNumber(number=3)
'''


def told_rows(most):
    """All rows to so many turns, and a list of his that does not ascend."""
    return [(row, turns_of(row), NAMES[:len(row)]) for row in rows_to(most)]


class TakesTest(Calls):
    def test_examples(self):
        self.assertEqual(check_examples(self, {**vars(turns_file), **vars(takes_file)}, EXAMPLES), 7)

    def test_all_orders(self):
        for row, turns, his in told_rows(5):
            can = sorted(takes_tried_out(row, his))
            self.assertEqual(all_takes(turns, his), can)
            self.assertEqual(how_many_takes(turns), len(can))
            for share in subsets(his):
                orders = plain_orders(row, his, share)
                self.assertIs(can_take(turns, his, share), share in can)
                self.assertEqual(number_of_take(turns, his, share), can.index(share) if share in can else None)
                self.assertEqual(how_many_orders(turns, his, share), len(orders))
                found = order_for(turns, his, share)
                if orders:
                    self.assertIn(found, orders)
                else:
                    self.assertIsNone(found)
                for order in permutations(share):
                    self.assertIs(is_order_for(turns, his, share, order), order in orders)

    def test_lost_at(self):
        for row, turns, his in told_rows(5):
            for wanted in permutations(his, row.count("a")):
                self.assertEqual(lost_at(turns, his, wanted), plain_lost(row, his, wanted))

    def test_take_against(self):
        for row, turns, his in told_rows(5):
            first = places_of(row, "a")
            for share in subsets(his):
                places = [his.index(name) + 1 for name in best_first(his, share)]
                if len(places) != len(first):
                    number = 0
                else:
                    number = min([at + 1 for at in range(len(first)) if places[at] < first[at]], default=None)
                self.assertEqual(take_against(turns, his, share), number)

    def test_numbers(self):
        for row, turns, his in told_rows(5):
            can = all_takes(turns, his)
            self.assertEqual([nth_take(turns, his, number) for number in range(len(can))], can)
            self.assertEqual([number_of_take(turns, his, share) for share in can], list(range(len(can))))
            for number in (-GREAT, -2, -1, len(can), len(can) + 1, GREAT):
                self.assert_raises(NoNumber, {"number": number}, nth_take, turns, his, number)

    def test_always_and_ever(self):
        for row, turns, his in told_rows(5):
            can = takes_tried_out(row, his)
            always = tuple(sorted(name for name in his if all(name in share for share in can)))
            ever = tuple(sorted(name for name in his if any(name in share for share in can)))
            self.assertEqual(always_taken(turns, his), always)
            self.assertEqual(ever_taken(turns, his), ever)

    def test_mirror_of_shares(self):
        for row, turns, his in told_rows(6):
            self.assertEqual(all_takes(turns, his), all_shares(backwards(turns), his[::-1]))

    def test_twelve_things(self):
        row = "abbaababbbaa"
        turns = turns_of(row)
        can = all_takes(turns, NAMES)
        self.assertEqual(can, sorted(set(can)))
        self.assertEqual(how_many_takes(turns), len(can))
        for number in (0, 1, len(can) // 2, len(can) - 1):
            share = nth_take(turns, NAMES, number)
            self.assertEqual((share, number_of_take(turns, NAMES, share)), (can[number], number))
            self.assertIsNone(plain_lost(row, NAMES, order_for(turns, NAMES, share)))
            self.assertEqual(how_many_orders(turns, NAMES, share), len(plain_orders(row, NAMES, share)))
        self.assertEqual(len(all_takes(Turns.of("a 6; b 6"), NAMES)), 924)
        self.assertEqual(how_many_orders(Turns.of("a 12"), NAMES, tuple(sorted(NAMES))), 479001600)
        self.assertEqual(how_many_orders(Turns.of("b 12"), NAMES, ()), 1)

    def test_how_many_of_many_turns(self):
        for hers, his in ((0, 100), (100, 0), (37, 63), (50, 50), (1, 99)):
            told = [pair for pair in (("a", hers), ("b", his)) if pair[1]]
            self.assertEqual(how_many_takes(Turns(told)), comb(100, hers))
            self.assertEqual(how_many_takes(Turns(told[::-1])), 1)
        for many in range(51):
            self.assertEqual(how_many_takes(Turns([("b", 1), ("a", 1)] * many)), comb(2 * many, many) // (many + 1))
        self.assertEqual(how_many_takes(Turns()), 1)

    def test_without_things(self):
        none = {"turns": Turns(), "his": ()}
        self.assert_gives(True, can_take, **none, share=())
        self.assert_gives(None, take_against, **none, share=())
        self.assert_gives(None, lost_at, **none, order=())
        self.assert_gives((), order_for, **none, share=())
        self.assert_gives(True, is_order_for, **none, share=(), thing=())
        self.assert_gives(False, is_order_for, **none, share=(), thing=[])
        self.assert_gives(1, how_many_orders, **none, share=())
        self.assert_gives([()], all_takes, **none)
        self.assert_gives((), nth_take, **none, number=0)
        self.assert_gives(0, number_of_take, **none, share=())
        self.assert_gives(1, how_many_takes, turns=Turns())
        self.assert_gives((), always_taken, **none)
        self.assert_gives((), ever_taken, **none)
        self.assert_refuses(NoNumber, {"number": 1}, nth_take, **none, number=1)

    def test_values_and_ways_of_calling(self):
        told = {"turns": Turns.of("a 1; b 1; a 1; b 1"), "his": ("oak", "fig", "yew", "ash")}
        can = [("ash", "fig"), ("ash", "oak"), ("ash", "yew"), ("fig", "yew"), ("oak", "yew")]
        self.assert_gives(can, all_takes, **told)
        self.assert_gives(("ash", "yew"), nth_take, **told, number=2)
        self.assert_gives(4, number_of_take, **told, share=("oak", "yew"))
        self.assert_gives(None, number_of_take, **told, share=("fig", "oak"))
        self.assert_gives(None, number_of_take, **told, share=("oak",))
        self.assert_gives(True, can_take, **told, share=("fig", "yew"))
        self.assert_gives(False, can_take, **told, share=("fig", "oak"))
        self.assert_gives(None, take_against, **told, share=("ash", "fig"))
        self.assert_gives(2, take_against, **told, share=("fig", "oak"))
        self.assert_gives(0, take_against, **told, share=("ash", "oak", "yew"))
        self.assert_gives(2, lost_at, **told, order=("fig", "oak"))
        self.assert_gives(None, lost_at, **told, order=("yew", "ash"))
        self.assert_gives(order_for(**told, share=("ash", "oak")), order_for, **told, share=("ash", "oak"))
        self.assert_gives(None, order_for, **told, share=("fig", "oak"))
        self.assert_gives(True, is_order_for, **told, share=("ash", "oak"), thing=("oak", "ash"))
        self.assert_gives(False, is_order_for, **told, share=("ash", "oak"), thing=("ash", "oak"))
        self.assert_gives(2, how_many_orders, **told, share=("ash", "yew"))
        self.assert_gives(5, how_many_takes, turns=told["turns"])
        self.assert_gives((), always_taken, **told)
        self.assert_gives(("ash", "fig", "oak", "yew"), ever_taken, **told)
        late = {**told, "turns": Turns.of("b 2; a 2")}
        self.assert_gives(("ash", "yew"), always_taken, **late)
        self.assert_gives(("ash", "yew"), ever_taken, **late)

    def test_orders_of_every_kind(self):
        told = {"turns": Turns.of("a 2; b 1"), "his": ("oak", "fig", "yew"), "share": ("fig", "oak")}
        self.assert_gives(True, is_order_for, **told, thing=("oak", "fig"))
        self.assert_gives(True, is_order_for, **told, thing=("fig", "oak"))
        for thing in (None, True, 0, 10 ** 500, "", "oak", (), [], ["fig", "oak"], ("fig",), ("fig", "fig"),
                      ("fig", "oak", "yew"), ("fig", "oak", "oak"), ("fig", "yew"), ("fig", "elm"), ("fig", 1),
                      ("fig", None), (["fig"], "oak"), (("fig",), "oak"), nested(12), [nested(11)], (1, 2),
                      ("fig", "oa"), ("fig", "oak") * 500):
            self.assert_gives(False, is_order_for, **told, thing=thing)
        for share in ((), ("fig",), ("fig", "oak", "yew")):
            self.assert_gives(False, is_order_for, turns=told["turns"], his=told["his"], share=share, thing=share)
            self.assert_gives(0, how_many_orders, turns=told["turns"], his=told["his"], share=share)

    def test_things_on_no_list(self):
        told = {"turns": Turns.of("a 2; b 1"), "his": ("oak", "fig", "yew")}
        for share, name in ((("elm",), "elm"), (("ash", "elm"), "ash"), (("ash", "fig", "zz"), "ash"),
                            (("fig", "rue"), "rue"), (("fig", "oak", "yew", "zz"), "zz")):
            for call in (can_take, take_against, order_for, how_many_orders, number_of_take):
                self.assert_refuses(NoThing, {"name": name}, call, **told, share=share)
            for thing in (("fig", "oak"), None, 3, [], ("elm",)):
                self.assert_refuses(NoThing, {"name": name}, is_order_for, **told, share=share, thing=thing)
        for order, name in ((("zz", "ash"), "zz"), (("fig", "elm"), "elm"), (("rue", "oak"), "rue")):
            self.assert_refuses(NoThing, {"name": name}, lost_at, **told, order=order)
        late = Turns.of("b 2; a 1")
        self.assert_refuses(NoThing, {"name": "elm"}, lost_at, turns=late, his=told["his"], order=("elm",))

    def test_other_things_ahead_of_all_else(self):
        great = Turns((("a", GREAT), ("b", GREAT)))
        for turns, his in ((Turns(), ("oak",)), (Turns.of("a 1; b 2"), ()), (Turns.of("a 1; b 2"), ("oak", "fig")),
                           (Turns.of("a 1; b 2"), ("oak", "fig", "yew", "ash")), (great, ("oak",))):
            told = {"turns": turns, "his": his}
            for share in ((), ("oak",), ("elm", "oak"), ("zz",)):
                for call in (can_take, take_against, order_for, how_many_orders, number_of_take):
                    self.assert_refuses(OtherThings, {}, call, **told, share=share)
                for thing in (None, his, ("zz",)):
                    self.assert_refuses(OtherThings, {}, is_order_for, **told, share=share, thing=thing)
                self.assert_refuses(OtherThings, {}, lost_at, **told, order=share)
            for call in (all_takes, always_taken, ever_taken):
                self.assert_refuses(OtherThings, {}, call, **told)
            for number in (-1, 0, 1, GREAT):
                self.assert_refuses(OtherThings, {}, nth_take, **told, number=number)


if __name__ == "__main__":
    unittest.main()
