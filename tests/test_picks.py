import unittest

from heirturns import picks as picks_file, turns as turns_file
from heirturns.errors import NoNumber, NoThing, OtherThings
from heirturns.picks import (
    by_list, is_list, is_share, kth_best, left_behind, places_on, shares, story, taken,
)
from heirturns.turns import Turns, turns_of
from tests.calls import Calls, nested
from tests.examples import check_examples
from tests.models import GREAT, NAMES, UNFIT, best_first, lists, plain_share, plain_taken, subsets, turns_and_rows

EXAMPLES = r'''
    >>> turns = Turns((("a", 1), ("b", 2), ("a", 1)))
    >>> hers, his = ("v", "w", "x", "y"), ("v", "x", "w", "y")
    >>> taken(turns, hers, his), shares(turns, hers, his), left_behind(turns, hers, his, 2), left_behind(turns, hers, his, 4)
    (('v', 'x', 'w', 'y'), (('v', 'y'), ('w', 'x')), ('w', 'y'), ())
    >>> story(turns, hers, his)
    ['1 a: v, place 1', '2 b: x, place 2', '3 b: w, place 3', '4 a: y, place 4']
    >>> by_list(his, ("w", "x")), places_on(hers, ("w", "x")), kth_best(hers, ("v", "y"), 2), by_list(hers, ())
    (('x', 'w'), (2, 3), 'y', ())
    >>> is_list(hers), is_list(("v", "v")), is_list(["v"]), is_list(()), is_share(hers, ("v", "y")), is_share(hers, ("y", "v")), is_share(hers, ("q",))
    (True, False, False, True, True, False, False)
    >>> kth_best(hers, ("v", "y"), 3)
    raises NoNumber(number=3)
    >>> by_list(hers, ("v", "q"))
    raises NoThing(name='q')
    >>> taken(turns, hers, ("v", "x"))
    raises OtherThings()
'''

WEIRD = (
    None, True, False, 0, 1, -1, 10 ** 500, "", "a", "ash", [], ["ash"], [["ash"]], (None,), (True,), (1,), ("",),
    ("Ash",), ("a b",), ("ash", 1), ("ash", None), ("ash", ()), ("ash", ["elm"]), ("ash", ("elm",)), (("ash", "elm"),),
    ("abcdefghi",), ("\u00e4sh",), ("a-b",), ("a1",), ("ash ",), ("-",), ([],), ((),), (["ash"],), nested(12),
    [nested(11)], ("ash", "ash"), ("ash", "elm", "ash"), ("ash", "elm", None), (None, "ash"), (10 ** 500,) * 1000,
)


class TakenTest(Calls):
    def test_examples(self):
        self.assertEqual(check_examples(self, {**vars(turns_file), **vars(picks_file)}, EXAMPLES), 7)

    def test_all_short_rows_and_lists(self):
        for size in range(5):
            for row, turns in turns_and_rows(size):
                for hers in lists(size)[:7]:
                    for his in lists(size):
                        found = plain_taken(row, hers, his)
                        self.assertEqual(taken(turns, hers, his), found)
                        both = plain_share(row, hers, his), plain_share(row, hers, his, "b")
                        self.assertEqual(shares(turns, hers, his), both)

    def test_story_and_left_behind(self):
        for row, turns in turns_and_rows(4):
            hers = ("fig", "oak", "ash", "elm")
            for his in lists(4):
                names = plain_taken(row, hers, his)
                told = [f"{at + 1} {row[at]}: {name}, place {(hers if row[at] == 'a' else his).index(name) + 1}"
                        for at, name in enumerate(names)]
                self.assertEqual(story(turns, hers, his), told)
                for number in range(5):
                    self.assertEqual(left_behind(turns, hers, his, number), tuple(sorted(names[number:])))
                for number in (-GREAT, -2, -1, 5, 6, GREAT):
                    self.assert_raises(NoNumber, {"number": number}, left_behind, turns, hers, his, number)

    def test_without_things(self):
        self.assert_gives((), taken, turns=Turns(), hers=(), his=())
        self.assert_gives(((), ()), shares, turns=Turns(), hers=(), his=())
        self.assert_gives([], story, turns=Turns(), hers=(), his=())
        self.assert_gives((), left_behind, turns=Turns(), hers=(), his=(), number=0)
        for number in (-1, 1):
            self.assert_refuses(NoNumber, {"number": number}, left_behind, turns=Turns(), hers=(), his=(), number=number)

    def test_one_heir_takes_all(self):
        hers, his = ("fig", "oak", "ash"), ("oak", "ash", "fig")
        self.assertEqual(taken(Turns.of("a 3"), hers, his), hers)
        self.assertEqual(taken(Turns.of("b 3"), hers, his), his)
        self.assertEqual(shares(Turns.of("a 3"), hers, his), (("ash", "fig", "oak"), ()))
        self.assertEqual(shares(Turns.of("b 3"), hers, his), ((), ("ash", "fig", "oak")))

    def test_twelve_things(self):
        for word in ("ab" * 6, "aabbbaabbbab", "b" * 6 + "a" * 6):
            row = tuple(word)
            for his in (NAMES, NAMES[::-1], NAMES[5:] + NAMES[:5]):
                self.assertEqual(taken(turns_of(row), NAMES, his), plain_taken(row, NAMES, his))

    def test_values_and_ways_of_calling(self):
        told = {"turns": Turns.of("a 1; b 2; a 1"), "hers": ("fig", "ash", "elm", "oak"),
                "his": ("oak", "fig", "ash", "elm")}
        self.assert_gives(("fig", "oak", "ash", "elm"), taken, **told)
        self.assert_gives((("elm", "fig"), ("ash", "oak")), shares, **told)
        self.assert_gives(["1 a: fig, place 1", "2 b: oak, place 1", "3 b: ash, place 3", "4 a: elm, place 3"],
                          story, **told)
        self.assert_gives(("ash", "elm"), left_behind, **told, number=2)

    def test_other_things_ahead_of_all_else(self):
        for told in UNFIT:
            for call in (taken, shares, story):
                self.assert_refuses(OtherThings, {}, call, **told)
            for number in (-1, 0, 2, GREAT):
                self.assert_refuses(OtherThings, {}, left_behind, **told, number=number)


class KindsTest(Calls):
    def test_lists(self):
        for thing in ((), ("ash",), ("b", "a"), NAMES, ("abcdefgh",), tuple("zyxw"),
                      tuple(one + other for one in "abcdefghij" for other in "zyxwvutsrq")):
            self.assertIs(is_list(thing), True)
            self.assertIs(is_list(thing=thing), True)
            self.assertIs(is_list(list(thing)), False)
        for thing in WEIRD:
            self.assertIs(is_list(thing), False, repr(thing)[:60])

    def test_shares(self):
        order = ("elm", "ash", "oak")
        for thing in subsets(order):
            self.assert_gives(True, is_share, order=order, thing=thing)
            self.assert_gives(False, is_share, order=order, thing=list(thing))
            if len(thing) > 1:
                self.assert_gives(False, is_share, order=order, thing=thing[::-1])
                self.assert_gives(False, is_share, order=order, thing=thing[:1] + thing)
        for thing in WEIRD:
            if thing != ("ash", "elm"):
                self.assertIs(is_share(order, thing), False, repr(thing)[:60])
        for thing in (("fig",), ("ash", "fig"), ("fig", "oak"), ("as",), ("ash", "oa"), ("aelm",), ("ash", None)):
            self.assert_gives(False, is_share, order=order, thing=thing)
        self.assert_gives(True, is_share, order=(), thing=())
        self.assert_gives(False, is_share, order=(), thing=("ash",))


class ByListTest(Calls):
    def test_all_shares_of_all_lists(self):
        for order in lists(4):
            for share in subsets(NAMES[:4]):
                best = best_first(order, share)
                self.assertEqual(by_list(order, share), tuple(best))
                self.assertEqual(places_on(order, share), tuple(order.index(name) + 1 for name in best))
                for number in range(-2, 7):
                    if 1 <= number <= len(best):
                        self.assertEqual(kth_best(order, share, number), best[number - 1])
                    else:
                        self.assert_raises(NoNumber, {"number": number}, kth_best, order, share, number)

    def test_values_and_ways_of_calling(self):
        order, share = ("oak", "elm", "fig", "ash"), ("ash", "elm", "oak")
        self.assert_gives(("oak", "elm", "ash"), by_list, order=order, share=share)
        self.assert_gives((1, 2, 4), places_on, order=order, share=share)
        self.assert_gives("ash", kth_best, order=order, share=share, number=3)
        self.assert_gives((), by_list, order=(), share=())
        self.assert_gives((), places_on, order=(), share=())
        self.assert_refuses(NoNumber, {"number": 1}, kth_best, order=(), share=(), number=1)
        self.assert_refuses(NoNumber, {"number": -GREAT}, kth_best, order=order, share=share, number=-GREAT)

    def test_things_on_no_list(self):
        order = ("oak", "elm")
        for share, name in ((("yew",), "yew"), (("ash", "elm"), "ash"), (("elm", "fig", "yew"), "fig"),
                            (("ash", "fig", "oak"), "ash"), (("elm", "oak", "yew"), "yew")):
            self.assert_refuses(NoThing, {"name": name}, by_list, order=order, share=share)
            self.assert_refuses(NoThing, {"name": name}, places_on, order=order, share=share)
            for number in (-1, 0, 1, 2, 9):
                self.assert_refuses(NoThing, {"name": name}, kth_best, order=order, share=share, number=number)
        self.assert_refuses(NoThing, {"name": "elm"}, by_list, order=(), share=("elm", "oak"))


if __name__ == "__main__":
    unittest.main()
