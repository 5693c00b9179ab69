import random
import unittest
from itertools import permutations, product

from heirturns import prices as prices_file, turns as turns_file
from heirturns.errors import NoThing, OtherThings
from heirturns.prices import (
    is_prices, is_prices_against, keeps, least_come, least_come_share, most_come, most_come_share, most_taken,
    most_taken_share, never_worth_less, prices_against, worth,
)
from heirturns.shares import all_shares
from heirturns.takes import all_takes
from heirturns.turns import Turns, turns_of
from tests.calls import Calls, nested
from tests.examples import check_examples
from tests.models import GREAT, NAMES, lists, plain_share, rows_to, subsets, takes_tried_out

EXAMPLES = r'''
    >>> prices = (("v", 9), ("w", 7), ("x", 4), ("y", 0))
    >>> hers, his = ("v", "w", "x", "y"), ("v", "x", "w", "y")
    >>> worth(prices, ("v", "y")), worth(prices, ()), keeps(prices, hers), keeps(prices, his)
    (9, 0, True, False)
    >>> calm, turned = Turns((("a", 1), ("b", 2), ("a", 1))), Turns((("a", 1), ("b", 1), ("a", 1), ("b", 1)))
    >>> most_taken(calm, his, prices), most_taken_share(calm, his, prices), most_taken(turned, his, prices), most_taken_share(turned, his, prices)
    (9, ('v', 'y'), 16, ('v', 'w'))
    >>> least_come(turned, hers, prices), least_come_share(turned, hers, prices), most_come(turned, hers, prices), most_come_share(turned, hers, prices), least_come(calm, hers, prices)
    (13, ('v', 'x'), 16, ('v', 'w'), 9)
    >>> never_worth_less(hers, ("v", "x"), ("w", "x")), never_worth_less(hers, ("v", "y"), ("w", "x")), prices_against(hers, ("v", "x"), ("w", "x"))
    (True, False, None)
    >>> found = prices_against(hers, ("v", "y"), ("w", "x"))
    >>> is_prices(found), keeps(found, hers), worth(found, ("v", "y")) < worth(found, ("w", "x")), is_prices_against(hers, ("v", "y"), ("w", "x"), found), is_prices_against(hers, ("v", "y"), ("w", "x"), prices)
    (True, True, True, True, True)
    >>> is_prices((("w", 0), ("v", 1))), is_prices((("v", -1),)), is_prices([("v", 1)]), is_prices(())
    (False, False, False, True)
    >>> worth(prices, ("q",))
    raises NoThing(name='q')
    >>> most_taken(calm, ("v", "w"), prices)
    raises OtherThings()
'''

WEIRD = (
    None, True, False, 0, 1, -1, 10 ** 500, "", "ash", [], [("ash", 1)], (["ash", 1],), ("ash", 1), (("ash",),),
    (("ash", 1, 1),), ((),), ([],), ("",), ("a1",), (None,), (1,), (True,), ((("ash", 1),),), ((1, "ash"),),
    (("ash", -1),), (("ash", -10 ** 500),), (("ash", True),), (("ash", False),), (("ash", None),), (("ash", "1"),),
    (("ash", ()),), (("ash", (1,)),), (("ash", [1]),), (("", 1),), (("Ash", 1),), (("abcdefghi", 1),), ((1, 1),),
    ((None, 1),), ((True, 1),), ((["ash"], 1),), ((("ash",), 1),), (("a b", 1),), (("\u00e4sh", 1),), nested(12),
    [nested(11)], (("ash", nested(10)),), (("ash", 1), ("ash", 1)), (("ash", 1), ("ash", 2)), (("elm", 1), ("ash", 2)),
    (("ash", 1), ("elm", 2), ["fig", 3]), (("ash", 1), ("elm", 2), None), (("ash", 1), ("fig", 2), ("elm", 3)),
    (("ash", 1),) * 500,
)

CALLS = (most_taken, most_taken_share, least_come, most_come, least_come_share, most_come_share)


def priced(order, numbers):
    """The prices of these things."""
    return tuple(sorted(zip(order, numbers)))


def plain_worth(prices, share):
    return sum(dict(prices)[name] for name in share)


def bent_prices(order):
    """All prices of ones and noughts that keep the list."""
    return [priced(order, [1] * many + [0] * (len(order) - many)) for many in range(len(order) + 1)]


def listed_first(call):
    """How the call names its list."""
    return "his" if call in (most_taken, most_taken_share) else "hers"


class KindsTest(Calls):
    def test_prices(self):
        for thing in ((), (("ash", 0),), (("ash", 10 ** 500), ("elm", 0)), (("a", 1), ("aa", 1), ("b", 5)),
                      tuple((one + other, 3) for one in "abcdefghij" for other in "abcdefghij")):
            self.assertIs(is_prices(thing), True)
            self.assertIs(is_prices(thing=thing), True)
            self.assertIs(is_prices(list(thing)), False)
        for thing in WEIRD:
            self.assertIs(is_prices(thing), False, repr(thing)[:60])


class WorthTest(Calls):
    def test_examples(self):
        self.assertEqual(check_examples(self, {**vars(turns_file), **vars(prices_file)}, EXAMPLES), 8)

    def test_worth_and_keeps(self):
        for order in lists(3):
            for numbers in product((0, 1, 2, GREAT), repeat=3):
                prices = priced(order, numbers)
                for share in subsets(order):
                    self.assertEqual(worth(prices, share), plain_worth(prices, share))
                self.assertIs(keeps(prices, order), list(numbers) == sorted(numbers, reverse=True))
                self.assertIs(keeps(prices, order[:2]), numbers[0] >= numbers[1])

    def test_values_and_ways_of_calling(self):
        prices = (("ash", 4), ("fig", 0), ("oak", 7), ("yew", 7))
        self.assert_gives(11, worth, prices=prices, share=("ash", "fig", "oak"))
        self.assert_gives(0, worth, prices=prices, share=())
        self.assert_gives(0, worth, prices=(), share=())
        self.assert_gives(True, keeps, prices=prices, order=("yew", "oak", "ash", "fig"))
        self.assert_gives(True, keeps, prices=prices, order=("oak", "yew", "fig"))
        self.assert_gives(False, keeps, prices=prices, order=("oak", "ash", "yew"))
        self.assert_gives(True, keeps, prices=prices, order=())
        self.assert_gives(True, keeps, prices=(), order=())
        self.assert_gives(True, keeps, prices=prices, order=("fig",))

    def test_things_without_a_price(self):
        prices = (("ash", 4), ("oak", 7))
        for share, name in ((("elm",), "elm"), (("ash", "elm", "zz"), "elm"), (("elm", "oak"), "elm"), (("zz",), "zz")):
            self.assert_refuses(NoThing, {"name": name}, worth, prices=prices, share=share)
        for order, name in ((("elm",), "elm"), (("zz", "elm"), "zz"), (("oak", "zz", "elm"), "zz"),
                            (("ash", "oak", "zz"), "zz")):
            self.assert_refuses(NoThing, {"name": name}, keeps, prices=prices, order=order)
        self.assert_refuses(NoThing, {"name": "ash"}, worth, prices=(), share=("ash",))
        self.assert_refuses(NoThing, {"name": "ash"}, keeps, prices=(), order=("ash",))


class MostAndLeastTest(Calls):
    def check_most_and_least(self, turns, order, prices, takes, comes):
        """The worths are those of the best and the worst of all shares."""
        most = max(plain_worth(prices, share) for share in takes)
        self.assertEqual(most_taken(turns, order, prices), most)
        found = most_taken_share(turns, order, prices)
        self.assertIn(found, takes)
        self.assertEqual(plain_worth(prices, found), most)
        worths = [plain_worth(prices, share) for share in comes]
        self.assertEqual(least_come(turns, order, prices), min(worths))
        self.assertEqual(most_come(turns, order, prices), max(worths))
        for found, told in ((least_come_share(turns, order, prices), min(worths)),
                            (most_come_share(turns, order, prices), max(worths))):
            self.assertIn(found, comes)
            self.assertEqual(plain_worth(prices, found), told)

    def test_all_shares_of_short_rows(self):
        for row in rows_to(4):
            turns, order = turns_of(row), ("fig", "oak", "ash", "elm")[:len(row)]
            takes = takes_tried_out(row, order)
            comes = {plain_share(row, order, his) for his in permutations(order)}
            for numbers in product((0, 1, 3), repeat=len(row)):
                self.check_most_and_least(turns, order, priced(order, numbers), takes, comes)

    def test_prices_by_chance(self):
        rng = random.Random(1)
        for turn in range(120):
            many = rng.randint(0, 12 if turn < 20 else 7)
            row, order = [rng.choice("ab") for at in range(many)], tuple(rng.sample(NAMES, many))
            prices = priced(order, [rng.choice((0, 1, 2, 5, 9, rng.randint(0, GREAT))) for at in range(many)])
            turns = turns_of(row)
            self.check_most_and_least(turns, order, prices, all_takes(turns, order), all_shares(turns, order))

    def test_prices_of_other_things_do_not_count(self):
        told = {"turns": Turns.of("b 1; a 1"), "prices": (("ash", 3), ("elm", GREAT), ("fig", 5), ("zz", GREAT))}
        self.assert_gives(3, most_taken, turns=told["turns"], his=("fig", "ash"), prices=told["prices"])
        self.assert_gives(3, least_come, turns=told["turns"], hers=("fig", "ash"), prices=told["prices"])
        self.assert_gives(5, most_come, turns=told["turns"], hers=("fig", "ash"), prices=told["prices"])

    def test_without_things(self):
        for prices in ((), (("ash", 3),)):
            for call in (most_taken, least_come, most_come):
                self.assert_gives(0, call, **{"turns": Turns(), listed_first(call): (), "prices": prices})
            for call in (most_taken_share, least_come_share, most_come_share):
                self.assert_gives((), call, **{"turns": Turns(), listed_first(call): (), "prices": prices})

    def test_values_and_ways_of_calling(self):
        order, prices = ("oak", "fig", "yew", "ash"), (("ash", 8), ("fig", 2), ("oak", 1), ("yew", 5))
        told = {"turns": Turns.of("b 1; a 1; b 1; a 1")}
        for call, value in ((most_taken, 13), (most_taken_share, ("ash", "yew")), (least_come, 3), (most_come, 10),
                            (least_come_share, ("fig", "oak")), (most_come_share, ("ash", "fig"))):
            self.assert_gives(value, call, **told, **{listed_first(call): order}, prices=prices)

    def test_errors_in_their_order(self):
        turns, great = Turns.of("b 1; a 1; b 1"), Turns((("a", GREAT),))
        for call in CALLS:
            kind = listed_first(call)
            for own, order in ((turns, ()), (turns, ("ash", "zz")), (turns, ("ash", "elm", "fig", "oak")),
                               (Turns(), ("zz",)), (great, ("zz", "ash"))):
                self.assert_refuses(OtherThings, {}, call, **{"turns": own, kind: order, "prices": (("ash", 1),)})
            for order, name in ((("zz", "ash", "elm"), "zz"), (("ash", "zz", "elm"), "zz"), (("ash", "oak", "zz"), "oak"),
                                (("elm", "ash", "zz"), "elm")):
                self.assert_refuses(NoThing, {"name": name}, call,
                                    **{"turns": turns, kind: order, "prices": (("ash", 1),)})


class NeverWorthLessTest(Calls):
    def test_against_all_prices_of_ones_and_noughts(self):
        for many in range(5):
            order = ("fig", "oak", "ash", "elm")[:many]
            bent = bent_prices(order)
            for one in subsets(order):
                for other in subsets(order):
                    less = [told for told in bent if plain_worth(told, one) < plain_worth(told, other)]
                    self.assertIs(never_worth_less(order, one, other), less == [])
                    found = prices_against(order, one, other)
                    if less:
                        self.check_against(order, one, other, found)
                    else:
                        self.assertIsNone(found)
                    for told in bent:
                        self.assertIs(is_prices_against(order, one, other, told), told in less)

    def check_against(self, order, one, other, prices):
        self.assertIs(is_prices(prices), True)
        self.assertEqual([name for name, price in prices], sorted(order))
        self.assertIs(keeps(prices, order), True)
        self.assertLess(plain_worth(prices, one), plain_worth(prices, other))
        self.assertIs(is_prices_against(order, one, other, prices), True)

    def test_all_prices_that_keep_the_list(self):
        order = ("fig", "ash", "elm")
        for numbers in product(range(4), repeat=3):
            prices = priced(order, numbers)
            keep = list(numbers) == sorted(numbers, reverse=True)
            for one in subsets(order):
                for other in subsets(order):
                    less = plain_worth(prices, one) < plain_worth(prices, other)
                    self.assertIs(is_prices_against(order, one, other, prices), keep and less)
                    if keep and less:
                        self.assertIs(never_worth_less(order, one, other), False)

    def test_prices_of_other_things_are_none(self):
        told = {"order": ("fig", "ash"), "one": ("ash",), "other": ("fig",)}
        self.assert_gives(True, is_prices_against, **told, thing=(("ash", 0), ("fig", 1)))
        for thing in ((("fig", 1),), (("ash", 0),), (), (("ash", 0), ("elm", 0), ("fig", 1)), (("ash", 0), ("fi", 1)),
                      (("ash", 0), ("fig", 1), ("zz", 0)), (("ash", 1), ("fig", 1)), (("ash", 2), ("fig", 3), ("fig", 3)),
                      (("ash", 1), ("fig", 0)), (("fig", 1), ("ash", 0)), [("ash", 0), ("fig", 1)],
                      (["ash", 0], ("fig", 1)), (("ash", False), ("fig", 1)), (("ash", 0), ("fig", True)),
                      (("ash", -1), ("fig", 1)), (("ash", -2), ("fig", -1)), *WEIRD):
            self.assert_gives(False, is_prices_against, **told, thing=thing)
        self.assert_gives(True, is_prices_against, **told, thing=(("ash", 10 ** 500), ("fig", 10 ** 500 + 1)))

    def test_twelve_things(self):
        rng = random.Random(2)
        for turn in range(60):
            order = tuple(rng.sample(NAMES, 12))
            one, other = [tuple(sorted(rng.sample(NAMES, rng.randint(0, 12)))) for share in range(2)]
            less = [told for told in bent_prices(order) if plain_worth(told, one) < plain_worth(told, other)]
            self.assertIs(never_worth_less(order, one, other), less == [])
            if less:
                self.check_against(order, one, other, prices_against(order, one, other))

    def test_values_and_ways_of_calling(self):
        order = ("oak", "fig", "yew", "ash")
        more = {"order": order, "one": ("oak", "yew"), "other": ("ash", "fig")}
        self.assert_gives(True, never_worth_less, **more)
        self.assert_gives(None, prices_against, **more)
        less = {"order": order, "one": ("fig", "yew"), "other": ("oak",)}
        self.assert_gives(False, never_worth_less, **less)
        self.assert_gives(prices_against(**less), prices_against, **less)
        self.assert_gives(True, is_prices_against, **less, thing=(("ash", 0), ("fig", 2), ("oak", 5), ("yew", 2)))
        none = {"order": (), "one": (), "other": ()}
        self.assert_gives(True, never_worth_less, **none)
        self.assert_gives(None, prices_against, **none)
        self.assert_gives(False, is_prices_against, **none, thing=())

    def test_things_on_no_list(self):
        for one, other, name in ((("zz",), (), "zz"), ((), ("zz",), "zz"), (("elm", "zz"), ("rue",), "elm"),
                                 (("ash",), ("ash", "rue", "zz"), "rue"), (("ash", "yew"), ("box",), "yew")):
            told = {"order": ("fig", "ash"), "one": one, "other": other}
            self.assert_refuses(NoThing, {"name": name}, never_worth_less, **told)
            self.assert_refuses(NoThing, {"name": name}, prices_against, **told)
            for thing in (None, (("ash", 0), ("fig", 1)), []):
                self.assert_refuses(NoThing, {"name": name}, is_prices_against, **told, thing=thing)


if __name__ == "__main__":
    unittest.main()
