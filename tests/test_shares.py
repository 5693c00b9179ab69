import unittest
from itertools import permutations
from math import comb

from heirturns import shares as shares_file, turns as turns_file
from heirturns.errors import NoNumber, NoThing, OtherThings
from heirturns.shares import (
    all_shares, can_come, come_against, his_list, how_many_shares, is_his_list, nth_share, number_of_share,
    possible_things, sure_things, worst_of,
)
from heirturns.turns import Turns, turns_of
from tests.calls import Calls, nested
from tests.examples import check_examples
from tests.models import GREAT, NAMES, best_first, places_of, plain_share, rows_to, subsets

EXAMPLES = r'''
    >>> turns, hers = Turns.of("a 1; b 2; a 1"), ("w", "x", "y", "z")
    >>> can_come(turns, hers, ("w", "z")), can_come(turns, hers, ("x", "y")), come_against(turns, hers, ("w", "z")), come_against(turns, hers, ("x", "y")), come_against(turns, hers, ("w",))
    (True, False, None, 1, 0)
    >>> is_his_list(turns, hers, ("w", "z"), ("x", "y", "w", "z")), is_his_list(turns, hers, ("w", "z"), ("z", "x", "y", "w")), his_list(turns, hers, ("x", "y"))
    (True, False, None)
    >>> all_shares(turns, hers), how_many_shares(turns), nth_share(turns, hers, 1), number_of_share(turns, hers, ("w", "z")), number_of_share(turns, hers, ("x", "y"))
    ([('w', 'x'), ('w', 'y'), ('w', 'z')], 3, ('w', 'y'), 2, None)
    >>> sure_things(turns, hers), possible_things(turns, hers), worst_of(turns, hers, 1), worst_of(turns, hers, 2)
    (('w',), ('w', 'x', 'y', 'z'), 'w', 'z')
    >>> later = Turns.of("b 1; a 2; b 1")
    >>> all_shares(later, hers), sure_things(later, hers), possible_things(later, hers), worst_of(later, hers, 2)
    ([('w', 'x'), ('w', 'y'), ('x', 'y')], (), ('w', 'x', 'y'), 'y')
    >>> how_many_shares(Turns.of("b 50; a 50")), how_many_shares(Turns.of("a 50; b 50")), all_shares(Turns(), ()), all_shares(Turns.of("b 1"), ("w",))
    (100891344545564193334812497256, 1, [()], [()])
    >>> can_come(turns, hers, ("q", "w"))
    raises NoThing(name='q')
    >>> all_shares(turns, ("w", "x"))
    raises OtherThings()
    >>> worst_of(turns, hers, 3)
    raises NoNumber(number=3)
'''


def told_rows(most):
    """All rows to so many turns, and a list of hers that does not ascend."""
    return [(row, turns_of(row), NAMES[:len(row)]) for row in rows_to(most)]


def shares_by_list(row, hers):
    """What she has by each list of his."""
    return {his: plain_share(row, hers, his) for his in permutations(hers)}


class SharesTest(Calls):
    def test_examples(self):
        self.assertEqual(check_examples(self, {**vars(turns_file), **vars(shares_file)}, EXAMPLES), 9)

    def test_all_lists_of_bob(self):
        for row, turns, hers in told_rows(5):
            by_list = shares_by_list(row, hers)
            come = sorted(set(by_list.values()))
            self.assertEqual(all_shares(turns, hers), come)
            self.assertEqual(how_many_shares(turns), len(come))
            for share in subsets(hers):
                self.assertIs(can_come(turns, hers, share), share in come)
                self.assertEqual(number_of_share(turns, hers, share), come.index(share) if share in come else None)
                found = his_list(turns, hers, share)
                if share in come:
                    self.assertEqual(by_list[found], share)
                    self.assertIs(type(found), tuple)
                    self.assertIs(is_his_list(turns, hers, share, found), True)
                else:
                    self.assertIsNone(found)

    def test_is_his_list(self):
        for row, turns, hers in told_rows(4):
            by_list = shares_by_list(row, hers)
            for share in subsets(hers):
                for his, own in by_list.items():
                    self.assertIs(is_his_list(turns, hers, share, his), own == share)

    def test_come_against(self):
        for row, turns, hers in told_rows(5):
            last = places_of(row, "a")
            for share in subsets(hers):
                places = [hers.index(name) + 1 for name in best_first(hers, share)]
                if len(places) != len(last):
                    number = 0
                else:
                    number = min([at + 1 for at in range(len(last)) if places[at] > last[at]], default=None)
                self.assertEqual(come_against(turns, hers, share), number)

    def test_numbers(self):
        for row, turns, hers in told_rows(5):
            come = all_shares(turns, hers)
            self.assertEqual([nth_share(turns, hers, number) for number in range(len(come))], come)
            self.assertEqual([number_of_share(turns, hers, share) for share in come], list(range(len(come))))
            for number in (-GREAT, -2, -1, len(come), len(come) + 1, GREAT):
                self.assert_raises(NoNumber, {"number": number}, nth_share, turns, hers, number)

    def test_sure_possible_and_worst(self):
        for row, turns, hers in told_rows(5):
            come = list(shares_by_list(row, hers).values())
            sure = tuple(sorted(name for name in hers if all(name in share for share in come)))
            some = tuple(sorted(name for name in hers if any(name in share for share in come)))
            self.assertEqual(sure_things(turns, hers), sure)
            self.assertEqual(possible_things(turns, hers), some)
            for which in range(-2, len(row) + 3):
                if 1 <= which <= row.count("a"):
                    worst = max((best_first(hers, share)[which - 1] for share in come), key=hers.index)
                    self.assertEqual(worst_of(turns, hers, which), worst)
                else:
                    self.assert_raises(NoNumber, {"number": which}, worst_of, turns, hers, which)

    def test_twelve_things(self):
        turns = Turns.of("a 1; b 2; a 2; b 1; a 1; b 3; a 2")
        come = all_shares(turns, NAMES)
        self.assertEqual(come, sorted(come))
        self.assertEqual((len(come), len(set(come))), (how_many_shares(turns), how_many_shares(turns)))
        for number in (0, 1, len(come) // 2, len(come) - 1):
            share = nth_share(turns, NAMES, number)
            self.assertEqual((share, number_of_share(turns, NAMES, share)), (come[number], number))
            self.assertEqual(plain_share("abbaababbbaa", NAMES, his_list(turns, NAMES, share)), share)
        self.assertEqual(len(all_shares(Turns.of("b 6; a 6"), NAMES)), 924)
        self.assertEqual(all_shares(Turns.of("a 12"), NAMES), [tuple(sorted(NAMES))])
        self.assertEqual(all_shares(Turns.of("b 12"), NAMES), [()])

    def test_how_many_of_many_turns(self):
        for hers, his in ((0, 100), (100, 0), (37, 63), (50, 50), (1, 99)):
            told = [pair for pair in (("b", his), ("a", hers)) if pair[1]]
            self.assertEqual(how_many_shares(Turns(told)), comb(100, hers))
            self.assertEqual(how_many_shares(Turns(told[::-1])), 1)
        for many in range(51):
            # As many as the ways of putting so many pairs of brackets: the numbers of Catalan.
            self.assertEqual(how_many_shares(Turns([("b", 1), ("a", 1)] * many)),
                             comb(2 * many + 2, many + 1) // (many + 2))
            self.assertEqual(how_many_shares(Turns([("a", 1), ("b", 1)] * many)), comb(2 * many, many) // (many + 1))
        self.assertEqual(how_many_shares(Turns()), 1)

    def test_without_things(self):
        none = {"turns": Turns(), "hers": ()}
        self.assert_gives(True, can_come, **none, share=())
        self.assert_gives(None, come_against, **none, share=())
        self.assert_gives((), his_list, **none, share=())
        self.assert_gives(True, is_his_list, **none, share=(), thing=())
        self.assert_gives(False, is_his_list, **none, share=(), thing=[])
        self.assert_gives([()], all_shares, **none)
        self.assert_gives((), nth_share, **none, number=0)
        self.assert_gives(0, number_of_share, **none, share=())
        self.assert_gives(1, how_many_shares, turns=Turns())
        self.assert_gives((), sure_things, **none)
        self.assert_gives((), possible_things, **none)
        self.assert_refuses(NoNumber, {"number": 1}, worst_of, **none, which=1)
        self.assert_refuses(NoNumber, {"number": 1}, nth_share, **none, number=1)

    def test_values_and_ways_of_calling(self):
        told = {"turns": Turns.of("b 1; a 1; b 1; a 1"), "hers": ("oak", "fig", "yew", "ash")}
        come = [("ash", "fig"), ("ash", "oak"), ("fig", "oak"), ("fig", "yew"), ("oak", "yew")]
        self.assert_gives(come, all_shares, **told)
        self.assert_gives(("fig", "oak"), nth_share, **told, number=2)
        self.assert_gives(4, number_of_share, **told, share=("oak", "yew"))
        self.assert_gives(None, number_of_share, **told, share=("ash", "yew"))
        self.assert_gives(None, number_of_share, **told, share=("oak",))
        self.assert_gives(True, can_come, **told, share=("ash", "fig"))
        self.assert_gives(False, can_come, **told, share=("ash", "yew"))
        self.assert_gives(None, come_against, **told, share=("ash", "fig"))
        self.assert_gives(1, come_against, **told, share=("ash", "yew"))
        self.assert_gives(0, come_against, **told, share=("ash", "oak", "yew"))
        self.assert_gives(his_list(**told, share=("ash", "fig")), his_list, **told, share=("ash", "fig"))
        self.assert_gives(True, is_his_list, **told, share=("ash", "fig"), thing=("oak", "yew", "ash", "fig"))
        self.assert_gives(5, how_many_shares, turns=told["turns"])
        self.assert_gives((), sure_things, **told)
        self.assert_gives(("ash", "fig", "oak", "yew"), possible_things, **told)
        self.assert_gives("fig", worst_of, **told, which=1)
        early = {**told, "turns": Turns.of("a 2; b 1; a 1")}
        self.assert_gives(("fig", "oak"), sure_things, **early)
        self.assert_gives(("fig", "oak", "yew"), possible_things, **{**told, "turns": Turns.of("b 1; a 2; b 1")})
        self.assert_gives(("fig", "oak"), sure_things, **{**told, "turns": Turns.of("a 2; b 2")})

    def test_lists_of_every_kind(self):
        told = {"turns": Turns.of("a 1; b 2"), "hers": ("oak", "fig", "yew"), "share": ("oak",)}
        self.assert_gives(True, is_his_list, **told, thing=("fig", "yew", "oak"))
        for thing in (None, True, 0, 10 ** 500, "", "oak", (), [], ["fig", "yew", "oak"], ("fig", "yew"),
                      ("fig", "yew", "oak", "ash"), ("fig", "fig", "yew", "oak"), ("fig", "yew", "elm"), ("fig", 1, "oak"),
                      ("fig", None, "oak"), (["fig"], "yew", "oak"), ("fig", ("yew",), "oak"), nested(12), [nested(11)],
                      ("fig", "yew", "Oak"), ("fig", "yew", "yew"), (1, 2, 3), ("fig",) * 1000):
            self.assert_gives(False, is_his_list, **told, thing=thing)
        for share in ((), ("fig",), ("fig", "oak"), ("fig", "oak", "yew")):
            self.assert_gives(False, is_his_list, turns=told["turns"], hers=told["hers"], share=share,
                              thing=("fig", "yew", "oak"))

    def test_things_on_no_list(self):
        told = {"turns": Turns.of("a 1; b 2"), "hers": ("oak", "fig", "yew")}
        for share, name in ((("elm",), "elm"), (("ash", "elm"), "ash"), (("ash", "fig", "zz"), "ash"),
                            (("fig", "rue"), "rue"), (("fig", "oak", "yew", "zz"), "zz")):
            for call in (can_come, come_against, his_list, number_of_share):
                self.assert_refuses(NoThing, {"name": name}, call, **told, share=share)
            for thing in (("fig", "yew", "oak"), None, 3, [], ("elm",)):
                self.assert_refuses(NoThing, {"name": name}, is_his_list, **told, share=share, thing=thing)

    def test_other_things_ahead_of_all_else(self):
        great = Turns((("a", GREAT), ("b", GREAT)))
        for turns, hers in ((Turns(), ("oak",)), (Turns.of("a 1; b 2"), ()), (Turns.of("a 1; b 2"), ("oak", "fig")),
                            (Turns.of("a 1; b 2"), ("oak", "fig", "yew", "ash")), (great, ("oak",))):
            told = {"turns": turns, "hers": hers}
            for share in ((), ("oak",), ("elm", "oak"), ("zz",)):
                for call in (can_come, come_against, his_list, number_of_share):
                    self.assert_refuses(OtherThings, {}, call, **told, share=share)
                for thing in (None, hers, ("zz",)):
                    self.assert_refuses(OtherThings, {}, is_his_list, **told, share=share, thing=thing)
            for call in (all_shares, sure_things, possible_things):
                self.assert_refuses(OtherThings, {}, call, **told)
            for number in (-1, 0, 1, GREAT):
                self.assert_refuses(OtherThings, {}, nth_share, **told, number=number)
                self.assert_refuses(OtherThings, {}, worst_of, **told, which=number)

    def test_great_numbers(self):
        told = {"turns": Turns.of("a 1; b 1; a 1"), "hers": ("oak", "fig", "yew")}
        for number in (-GREAT, GREAT):
            self.assert_refuses(NoNumber, {"number": number}, nth_share, **told, number=number)
            self.assert_refuses(NoNumber, {"number": number}, worst_of, **told, which=number)


if __name__ == "__main__":
    unittest.main()
