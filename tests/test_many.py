import random
import unittest
from itertools import permutations, product

from heirturns import many as many_file
from heirturns.errors import NoHeir, NoThing, OtherThings
from heirturns.many import (
    as_one, can_come_among, can_take_among, is_lists, is_order_among, is_row, lists_for, order_among, picked, share_of,
)
from heirturns.picks import taken
from heirturns.shares import can_come
from heirturns.takes import can_take
from heirturns.turns import turns_of
from tests.calls import Calls, nested
from tests.examples import check_examples
from tests.models import NAMES, lists, places_of, rows_to, subsets

EXAMPLES = r'''
    >>> row = ("b", "a", "c", "a")
    >>> hers = ("p", "q", "r", "s")
    >>> lists = (("a", hers), ("b", ("p", "r", "q", "s")), ("c", ("q", "s", "r", "p")))
    >>> picked(row, lists), share_of(row, lists, "a"), picked(("a", "b", "c", "a"), lists), share_of(("a", "b", "c", "a"), lists, "a")
    (('p', 'q', 's', 'r'), ('q', 'r'), ('p', 'r', 'q', 's'), ('p', 's'))
    >>> is_row(row), is_row(("ab",)), is_row(["a"]), is_lists(lists), is_lists(lists[::-1]), is_lists((("a", ("p",)), ("b", ("q",)))), is_lists(())
    (True, False, False, True, False, False, True)
    >>> twins = (("a", hers), ("b", ("p", "r", "q", "s")), ("c", ("p", "r", "q", "s")))
    >>> as_one(row, twins, "b", "c"), picked(row, twins)
    ((('b', 'a', 'b', 'a'), (('a', ('p', 'q', 'r', 's')), ('b', ('p', 'r', 'q', 's')))), ('p', 'q', 'r', 's'))
    >>> can_come_among(row, hers, "a", ("q", "r")), can_come_among(row, hers, "a", ("r", "s")), lists_for(row, hers, "a", ("r", "s"))
    (True, False, None)
    >>> found = lists_for(row, hers, "a", ("q", "s"))
    >>> is_lists(found), share_of(row, found, "a")
    (True, ('q', 's'))
    >>> early = ("a", "b", "c", "a")
    >>> can_take_among(early, lists, "a", ("q", "r")), order_among(early, lists, "a", ("q", "r")), order_among(early, lists, "a", ("p", "q")), is_order_among(early, lists, "a", ("q", "r")), is_order_among(early, lists, "a", ("r", "q"))
    (True, ('q', 'r'), None, True, False)
    >>> picked(("a", "d"), lists)
    raises NoHeir(name='d')
    >>> picked(("a", "b"), lists)
    raises OtherThings()
    >>> as_one(row, lists, "b", "c")
    raises OtherThings()
'''

WEIRD = (
    None, True, False, 0, 1, -1, 10 ** 500, "", "a", "ab", [], ["a"], [["a", ["p"]]], (None,), (True,), (1,), ("",),
    ("A",), ("a b",), ("ab",), ("a", "ab"), ("a", 1), ("a", None), ("a", ()), ("a", ["b"]), (("a",), "b"), ([],),
    ((),), (["a"],), nested(12), [nested(11)], ("\u00e4",), ("-",), ("a",) * 500 + ("1",), (("a", ("p",)), "b"),
)

LISTS = (("a", ("fig", "ash", "elm", "oak")), ("b", ("ash", "oak", "fig", "elm")), ("c", ("oak", "ash", "elm", "fig")))


def rows(heirs, size):
    return list(product(heirs, repeat=size))


def plain_picked(row, lists, heir=None, wanted=()):
    """What is taken, turn by turn, if the heir takes what is wanted, and all others plainly; None if it is gone."""
    orders = dict(lists)
    left, waiting, found = list(orders[row[0]]) if row else [], list(wanted), []
    for own in row:
        name = waiting.pop(0) if own == heir else min(left, key=orders[own].index)
        if name not in left:
            return None
        left.remove(name)
        found.append(name)
    return tuple(found)


def plain_share_of(row, lists, heir):
    return tuple(sorted(name for own, name in zip(row, plain_picked(row, lists)) if own == heir))


def plain_orders(row, lists, heir, share):
    """All orders in which the heir gets the whole share."""
    if len(share) != row.count(heir):
        return []
    return [order for order in permutations(share) if plain_picked(row, lists, heir, order) is not None]


def games(rng, times, heirs="abc", most=5):
    """Rows with lists of all these heirs, by chance."""
    found = []
    for turn in range(times):
        many = rng.randint(0, most)
        told = tuple((heir, tuple(rng.sample(NAMES[:many], many))) for heir in sorted(heirs))
        found.append((tuple(rng.choice(heirs) for at in range(many)), told))
    return found


class KindsTest(Calls):
    def test_rows(self):
        for thing in ((), ("a",), ("z", "a", "z"), tuple("abcdefghijkl"), ("a",) * 500):
            self.assertIs(is_row(thing), True)
            self.assertIs(is_row(thing=thing), True)
            self.assertIs(is_row(list(thing)), False)
        for thing in WEIRD:
            self.assertIs(is_row(thing), False, repr(thing)[:60])

    def test_lists(self):
        many = tuple((heir, NAMES) for heir in "abcdefghijklmnopqrstuvwxyz")
        for thing in ((), (("a", ()),), (("b", ()), ("z", ())), (("a", ("fig",)),), LISTS, LISTS[1:], many,
                      (("q", NAMES), ("r", NAMES[::-1]))):
            self.assertIs(is_lists(thing), True)
            self.assertIs(is_lists(thing=thing), True)
            self.assertIs(is_lists(list(thing)), False)

    def test_no_lists(self):
        for thing in (*WEIRD, (("a", ["p"]),), (["a", ("p",)],), (("ab", ("p",)),), (("a", ("p", "p")),),
                      (("a", ("p",), 1),), (("a",),), (("a", None),), (("a", ("P",)),), (("a", ("p", 1)),),
                      ((1, ("p",)),), ((None, ("p",)),), ((("a",), ("p",)),), (("a", "p"),), ((("p",), "a"),),
                      (("", ()),), (("A", ()),), (("a", (("p",),)),), (("a", ("p",)), None)):
            self.assertIs(is_lists(thing), False, repr(thing)[:60])
        for one, other in ((("a", ("p",)), ("a", ("p",))), (("b", ("p",)), ("a", ("p",))), (("a", ("p",)), ("b", ())),
                           (("a", ("p", "q")), ("b", ("p",))), (("a", ("p", "q")), ("b", ("p", "r"))),
                           (("a", ("p", "q")), ("a", ("q", "p"))), (("a", ()), ("b", ("p",)))):
            self.assertIs(is_lists((one, other)), False, (one, other))
        self.assertIs(is_lists(LISTS + (("d", NAMES[:3]),)), False)
        self.assertIs(is_lists(LISTS + (("b", NAMES[:4]),)), False)


class PickedTest(Calls):
    def test_examples(self):
        self.assertEqual(check_examples(self, vars(many_file), EXAMPLES), 9)

    def test_turn_by_turn(self):
        for row in rows("abc", 4):
            for order in lists(4)[::3]:
                told = LISTS[:1] + (("b", order),) + LISTS[2:]
                self.assertEqual(picked(row, told), plain_picked(row, told))
                for heir in "abc":
                    self.assertEqual(share_of(row, told, heir), plain_share_of(row, told, heir))
        for row, told in games(random.Random(1), 50, "abcdef", 12):
            self.assertEqual(picked(row, told), plain_picked(row, told))

    def test_two_heirs_take_as_ever(self):
        for row in rows_to(4):
            for his in lists(len(row)):
                told = (("a", NAMES[:len(row)]), ("b", his))
                self.assertEqual(picked(row, told), taken(turns_of(row), NAMES[:len(row)], his))

    def test_without_things(self):
        for told in ((), (("a", ()),), (("a", ()), ("b", ()))):
            self.assert_gives((), picked, row=(), lists=told)
        self.assert_gives((), share_of, row=(), lists=(("a", ()),), heir="a")
        self.assert_refuses(NoHeir, {"name": "a"}, share_of, row=(), lists=(), heir="a")
        self.assert_refuses(NoHeir, {"name": "b"}, picked, row=("b",), lists=())
        self.assert_refuses(OtherThings, {}, picked, row=("a",), lists=(("a", ()),))
        self.assert_refuses(OtherThings, {}, picked, row=(), lists=(("a", ("fig",)),))

    def test_values_and_ways_of_calling(self):
        told = {"row": ("c", "a", "a", "b"), "lists": LISTS}
        self.assert_gives(("oak", "fig", "ash", "elm"), picked, **told)
        self.assert_gives(("ash", "fig"), share_of, **told, heir="a")
        self.assert_gives(("elm",), share_of, **told, heir="b")
        self.assert_gives((), share_of, row=("a", "a", "a", "a"), lists=LISTS, heir="c")

    def test_errors_in_their_order(self):
        for row, name in ((("d",), "d"), (("a", "e", "d"), "e"), (("a", "b", "c", "a", "z"), "z"), (("z", "y"), "z")):
            self.assert_refuses(NoHeir, {"name": name}, picked, row=row, lists=LISTS)
            self.assert_refuses(NoHeir, {"name": name}, share_of, row=row, lists=LISTS, heir="a")
            self.assert_refuses(NoHeir, {"name": "x"}, share_of, row=row, lists=LISTS, heir="x")
        for row in ((), ("a",), ("a", "b", "c"), ("a", "b", "c", "a", "a")):
            self.assert_refuses(OtherThings, {}, picked, row=row, lists=LISTS)
            self.assert_refuses(OtherThings, {}, share_of, row=row, lists=LISTS, heir="a")
            self.assert_refuses(NoHeir, {"name": "d"}, share_of, row=row, lists=LISTS, heir="d")


class AsOneTest(Calls):
    def test_what_is_picked_is_the_same(self):
        for row, told in games(random.Random(2), 60, "abcd", 6):
            order = dict(told)["b"]
            alike = tuple((heir, order if heir in "bd" else own) for heir, own in told)
            for one, other in (("b", "d"), ("d", "b")):
                joined, kept = as_one(row, alike, one, other)
                self.assertEqual(joined, tuple(one if heir == other else heir for heir in row))
                self.assertEqual(kept, tuple(pair for pair in alike if pair[0] != other))
                self.assertTrue(is_row(joined) and is_lists(kept))
                self.assertEqual(picked(joined, kept), picked(row, alike))

    def test_values_and_ways_of_calling(self):
        alike = (("a", ("fig", "ash")), ("b", ("fig", "ash")), ("c", ("ash", "fig")))
        self.assert_gives((("a", "a"), (("a", ("fig", "ash")), ("c", ("ash", "fig")))), as_one, row=("a", "b"),
                          lists=alike, one="a", other="b")
        self.assert_gives((("b", "c"), (("b", ("fig", "ash")), ("c", ("ash", "fig")))), as_one, row=("a", "c"),
                          lists=alike, one="b", other="a")
        mixed = (("a", ["fig", "ash"]), ["b", ("fig", "ash")], ("c", ("ash", "fig")))
        self.assertEqual(as_one(["a", "b"], mixed, "a", "b"), as_one(("a", "b"), alike, "a", "b"))
        for own in "abc":
            self.assert_gives((("a", "b"), alike), as_one, row=("a", "b"), lists=alike, one=own, other=own)
        self.assert_gives(((), (("b", ()),)), as_one, row=(), lists=(("a", ()), ("b", ())), one="b", other="a")

    def test_errors_in_their_order(self):
        told = {"row": ("a", "b", "c", "a"), "lists": LISTS}
        for one, other, name in (("x", "y", "x"), ("x", "x", "x"), ("a", "y", "y"), ("x", "a", "x")):
            self.assert_refuses(NoHeir, {"name": name}, as_one, **told, one=one, other=other)
        for one, other in permutations("abc", 2):
            self.assert_refuses(OtherThings, {}, as_one, **told, one=one, other=other)
        self.assert_refuses(NoHeir, {"name": "a"}, as_one, row=(), lists=(), one="a", other="b")


class ComeTest(Calls):
    def test_against_all_lists_of_the_others(self):
        hers = NAMES[:3]
        for row in rows("abc", 3) + rows("ab", 2) + [()]:
            order = hers[:len(row)]
            found = {plain_share_of(row, (("a", order), ("b", one), ("c", other)), "a")
                     for one in lists(len(row)) for other in lists(len(row))}
            for share in subsets(order):
                self.assertIs(can_come_among(row, order, "a", share), share in found)
                self.check_lists_for(row, order, "a", share, share in found)

    def check_lists_for(self, row, order, heir, share, comes):
        found = lists_for(row, order, heir, share)
        if not comes:
            self.assertIsNone(found)
            return
        self.assertIs(is_lists(found), True)
        self.assertEqual([own for own, likes in found], sorted({heir, *row}))
        self.assertEqual(dict(found)[heir], order)
        self.assertEqual(share_of(row, found, heir), share)

    def test_at_the_place_of_her_turn_or_ahead_of_it(self):
        for row in rows("abcd", 4)[::3]:
            order = ("oak", "ash", "yew", "fig")
            for heir in "ac":
                turns = places_of(row, heir)
                for share in subsets(order):
                    places = sorted(order.index(name) + 1 for name in share)
                    comes = len(places) == len(turns) and all(at <= turn for at, turn in zip(places, turns))
                    self.assertIs(can_come_among(row, order, heir, share), comes)
                    self.check_lists_for(row, order, heir, share, comes)

    def test_two_heirs_as_ever(self):
        for row in rows_to(5):
            for share in subsets(NAMES[:len(row)]):
                self.assertIs(can_come_among(row, NAMES[:len(row)], "a", share),
                              can_come(turns_of(row), NAMES[:len(row)], share))

    def test_an_heir_without_turns(self):
        told = {"row": ("b", "c"), "hers": ("fig", "ash"), "heir": "z"}
        self.assert_gives(True, can_come_among, **told, share=())
        self.assert_gives(False, can_come_among, **told, share=("fig",))
        self.check_lists_for(("b", "c"), ("fig", "ash"), "z", (), True)
        self.assert_gives((("q", ()),), lists_for, row=(), hers=(), heir="q", share=())

    def test_ways_of_calling(self):
        told = {"row": ("b", "a", "c", "a"), "hers": ("fig", "ash", "elm", "oak"), "heir": "a"}
        self.assert_gives(True, can_come_among, **told, share=("ash", "oak"))
        self.assert_gives(False, can_come_among, **told, share=("elm", "oak"))
        self.assert_gives(lists_for(**told, share=("ash", "oak")), lists_for, **told, share=("ash", "oak"))
        self.assert_gives(None, lists_for, **told, share=("elm", "oak"))

    def test_errors_in_their_order(self):
        row = ("b", "a", "c")
        for call in (can_come_among, lists_for):
            for hers in ((), ("fig", "ash"), ("fig", "ash", "elm", "oak")):
                for share in ((), ("fig",), ("zz",)):
                    self.assert_refuses(OtherThings, {}, call, row=row, hers=hers, heir="a", share=share)
            for share, name in ((("zz",), "zz"), (("ash", "oak"), "oak"), (("oak", "zz"), "oak")):
                for heir in "az":
                    self.assert_refuses(NoThing, {"name": name}, call, row=row, hers=("fig", "ash", "elm"), heir=heir,
                                        share=share)


class TakeTest(Calls):
    def check_among(self, row, told, heir, share):
        orders = plain_orders(row, told, heir, share)
        self.assertIs(can_take_among(row, told, heir, share), orders != [])
        found = order_among(row, told, heir, share)
        if orders:
            self.assertIn(found, orders)
        else:
            self.assertIsNone(found)
        for order in permutations(share):
            self.assertIs(is_order_among(row, told, heir, order), order in orders)

    def test_all_shares_of_all_rows(self):
        for row in rows("abc", 4):
            for heir in "abc":
                for share in subsets(NAMES[:4]):
                    self.check_among(row, LISTS, heir, share)

    def test_more_heirs_and_turns(self):
        rng = random.Random(3)
        for row, told in games(rng, 60, "abcd", 6):
            for heir in "ad":
                for share in subsets(NAMES[:len(row)]):
                    if len(share) == row.count(heir):
                        self.check_among(row, told, heir, share)

    def test_twelve_turns(self):
        rng = random.Random(4)
        for row, told in [own for own in games(rng, 60, "abc", 12) if len(own[0]) > 10]:
            for turn in range(10):
                share = tuple(sorted(rng.sample(NAMES[:len(row)], row.count("a"))))
                found = order_among(row, told, "a", share)
                if found is not None:
                    self.assertEqual(tuple(sorted(found)), share)
                    self.assertIsNotNone(plain_picked(row, told, "a", found))
                elif len(share) < 7:
                    self.assertEqual(plain_orders(row, told, "a", share), [])

    def test_two_heirs_as_ever(self):
        for row in rows_to(5):
            his = NAMES[:len(row)]
            for share in subsets(his):
                told = (("a", his[::-1]), ("b", his))
                self.assertIs(can_take_among(row, told, "a", share), can_take(turns_of(row), his, share))

    def test_without_things_and_without_turns(self):
        none = {"row": (), "lists": (("a", ()),), "heir": "a"}
        self.assert_gives(True, can_take_among, **none, share=())
        self.assert_gives((), order_among, **none, share=())
        self.assert_gives(True, is_order_among, **none, thing=())
        self.assert_gives(False, is_order_among, **none, thing=[])
        idle = {"row": ("b", "b", "b", "c"), "lists": LISTS, "heir": "a"}
        self.assert_gives((), order_among, **idle, share=())
        self.assert_gives(None, order_among, **idle, share=("fig",))
        self.assert_gives(False, can_take_among, **idle, share=("fig",))
        self.assert_gives(True, is_order_among, **idle, thing=())
        self.assert_gives(False, is_order_among, **idle, thing=("fig",))

    def test_values_and_ways_of_calling(self):
        told = {"row": ("a", "b", "c", "a"), "lists": LISTS, "heir": "a"}
        self.assert_gives(True, can_take_among, **told, share=("ash", "fig"))
        self.assert_gives(None, order_among, **told, share=("ash", "elm"))
        self.assert_gives(False, can_take_among, **told, share=("ash", "elm"))
        self.assert_gives(("oak", "fig"), order_among, **told, share=("fig", "oak"))
        self.assert_gives(True, is_order_among, **told, thing=("fig", "elm"))
        self.assert_gives(False, is_order_among, **told, thing=("fig", "oak"))

    def test_orders_of_every_kind(self):
        told = {"row": ("a", "b", "c", "a"), "lists": LISTS, "heir": "a"}
        for thing in (*WEIRD, (), ["fig", "elm"], ("fig",), ("fig", "fig"), ("fig", "elm", "ash"), ("fig", "zz"),
                      ("zz", "fig"), ("fig", 1), (1, "fig"), (None, None), (["fig"], "elm"), (("fig",), "elm"),
                      ("elm", "fig", "elm"), ("fig", "elm") * 500, ("ash", "ash"), ("fig", "ash"), ("ash", "elm")):
            self.assert_gives(False, is_order_among, **told, thing=thing)
        for thing in (("fig", "elm"), ("elm", "fig"), ("oak", "fig"), ("ash", "fig")):
            self.assert_gives(True, is_order_among, **told, thing=thing)

    def test_errors_in_their_order(self):
        for call, last in ((can_take_among, {"share": ("elm", "zz")}), (order_among, {"share": ("zz",)}),
                           (is_order_among, {"thing": ("zz",)}), (is_order_among, {"thing": None})):
            self.assert_refuses(NoHeir, {"name": "z"}, call, row=("y", "x"), lists=LISTS, heir="z", **last)
            self.assert_refuses(NoHeir, {"name": "z"}, call, row=("a",), lists=LISTS, heir="z", **last)
            self.assert_refuses(NoHeir, {"name": "y"}, call, row=("a", "y", "x"), lists=LISTS, heir="a", **last)
            for row in ((), ("a", "b"), ("a", "b", "c", "a", "a")):
                self.assert_refuses(OtherThings, {}, call, row=row, lists=LISTS, heir="a", **last)
        told = {"row": ("a", "b", "c", "a"), "lists": LISTS, "heir": "a"}
        for call in (can_take_among, order_among):
            for share, name in ((("zz",), "zz"), (("elm", "rue", "zz"), "rue"), (("fig", "yew"), "yew")):
                self.assert_refuses(NoThing, {"name": name}, call, **told, share=share)


if __name__ == "__main__":
    unittest.main()
