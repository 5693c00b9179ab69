import random
import unittest
from itertools import permutations

from heirturns import hidden as hidden_file, turns as turns_file
from heirturns.errors import NoList, NoNumber, NothingDone, NoThing, OtherThings
from heirturns.hidden import Hidden, looks_of, surveyed
from heirturns.turns import Turns, turns_of
from tests.calls import Calls, listed
from tests.examples import check_examples
from tests.models import GREAT, NAMES, plain_taken, rows_to, subsets

EXAMPLES = r'''
    >>> turns = Turns((("a", 1), ("b", 2), ("a", 1)))
    >>> looks_of(turns, ("v", "w", "x", "y"), ("v", "x", "w")), looks_of(turns, ("v", "w", "x", "y"), ("y",))
    (((('w', 'x', 'y'), 'x'), (('w', 'y'), 'w')), ())
    >>> hidden = Hidden(("v", "w", "x", "y"))
    >>> hidden.how_many(), hidden.tell(("w", "x", "y"), "x"), hidden.pairs, hidden.how_many(), hidden.may_take(("w", "y")), hidden.may_take(("v", "w", "x")), hidden.sure_take(("x", "y")), hidden.sure_take(("v", "x"))
    (24, None, (('x', 'w'), ('x', 'y')), 8, ('w', 'y'), ('v', 'x'), 'x', None)
    >>> hidden.known("x", "y"), hidden.known("y", "x"), hidden.tell(("w", "y"), "w"), hidden.how_many(), [hidden.nth_list(number) for number in (0, 3)], hidden.fits(("w", "x", "v", "y"))
    (True, False, None, 4, [('v', 'x', 'w', 'y'), ('x', 'w', 'y', 'v')], False)
    >>> hidden.ask in (("v", "w"), ("v", "x"), ("v", "y")), len(hidden), hidden.looks[1], hidden.twin() == hidden, hidden.back(), hidden.known("w", "y")
    (True, 2, (('w', 'y'), 'w'), True, None, False)
    >>> surveyed(("v", "w", "x", "y"), lambda pair: pair[1])
    ('y', 'x', 'w', 'v')
    >>> hidden.tell(("x", "y"), "y")
    raises NoList()
    >>> hidden.tell(("q", "x"), "x")
    raises NoThing(name='q')
    >>> hidden.nth_list(8)
    raises NoNumber(number=8)
    >>> Hidden(("v",)).back()
    raises NothingDone()
'''


def set_of(many):
    """A set of so many things."""
    return tuple(sorted(NAMES[:many]))


def fitting(things, looks):
    """All lists that fit, ascending, tried out."""
    return [order for order in permutations(things)
            if all(min(left, key=order.index) == took for left, took in looks)]


def told_hidden(things, looks):
    hidden = Hidden(things)
    for left, took in looks:
        hidden.tell(left, took)
    return hidden


def all_looks(things):
    """All looks at these things."""
    return [(left, took) for left in subsets(things) for took in left]


def told(hidden):
    """All that a Hidden tells without being asked of anything."""
    return (hidden.things, hidden.looks, hidden.pairs, hidden.ask, len(hidden), hidden.how_many(),
            [hidden.nth_list(number) for number in range(min(hidden.how_many(), 30))])


class HiddenCalls(Calls):
    def check_hidden(self, hidden, things, looks):
        """All answers are those that the lists that fit give, tried out."""
        lists = fitting(things, looks)
        pairs = tuple((one, other) for one in things for other in things
                      if one != other and all(order.index(one) < order.index(other) for order in lists))
        self.assertEqual((hidden.things, hidden.looks, len(hidden)), (things, tuple(looks), len(looks)))
        self.assertEqual(hidden.pairs, pairs)
        self.assertEqual(hidden.how_many(), len(lists))
        self.assertEqual([hidden.nth_list(number) for number in range(len(lists))], lists)
        for number in (-GREAT, -1, len(lists), len(lists) + 1, GREAT):
            self.assert_raises(NoNumber, {"number": number}, hidden.nth_list, number)
        for order in permutations(things):
            self.assertIs(hidden.fits(order), order in lists)
        for one in things:
            for other in things:
                self.assertIs(hidden.known(one, other), (one, other) in pairs)
        self.check_ask(hidden.ask, things, pairs)
        self.check_takes(hidden, things, lists)

    def check_ask(self, ask, things, pairs):
        free = [(one, other) for one in things for other in things
                if one < other and (one, other) not in pairs and (other, one) not in pairs]
        if free:
            self.assertIs(type(ask), tuple)
            self.assertIn(ask, free)
        else:
            self.assertIsNone(ask)

    def check_takes(self, hidden, things, lists):
        for left in subsets(things)[1:]:
            found = tuple(sorted({min(left, key=order.index) for order in lists}))
            self.assertEqual(hidden.may_take(left), found)
            self.assertEqual(hidden.sure_take(left), found[0] if len(found) == 1 else None)


class HiddenTest(HiddenCalls):
    def test_examples(self):
        self.assertEqual(check_examples(self, {**vars(turns_file), **vars(hidden_file)}, EXAMPLES), 9)

    def test_one_look_and_two(self):
        for many in range(4):
            things = set_of(many)
            self.check_hidden(Hidden(things), things, [])
            for first in all_looks(things):
                self.check_hidden(told_hidden(things, [first]), things, [first])
                for second in all_looks(things):
                    if fitting(things, [first, second]):
                        looks = [first, second]
                        self.check_hidden(told_hidden(things, looks), things, looks)

    def test_along_many_looks_and_back(self):
        rng = random.Random(5)
        for turn in range(25):
            things = set_of(rng.randint(1, 6))
            hidden, looks, lists = Hidden(things), [], list(permutations(things))
            while len(lists) > 1 and len(looks) < 7:
                left = tuple(sorted(rng.sample(things, rng.randint(1, len(things)))))
                took = rng.choice(left)
                if fitting(things, looks + [(left, took)]):
                    self.assertIsNone(hidden.tell(left, took))
                    looks.append((left, took))
                else:
                    before = told(hidden)
                    self.assert_raises(NoList, {}, hidden.tell, left, took)
                    self.assertEqual(told(hidden), before)
                lists = fitting(things, looks)
                self.check_hidden(hidden, things, looks)
            while looks:
                looks.pop()
                self.assertIsNone(hidden.back())
                self.check_hidden(hidden, things, looks)
            self.assert_raises(NothingDone, {}, hidden.back)
            self.assertEqual(hidden, Hidden(things))

    def test_looks_that_no_list_fits(self):
        things = set_of(3)
        for first in all_looks(things):
            for second in all_looks(things):
                hidden = told_hidden(things, [first])
                for third in all_looks(things):
                    if not fitting(things, [first, third]):
                        self.assert_raises(NoList, {}, hidden.tell, *third)
                self.assertEqual((hidden.looks, len(hidden)), ((first,), 1))
                if fitting(things, [first, second]):
                    self.assertIsNone(hidden.tell(*second))

    def test_known_through_others(self):
        hidden = told_hidden(("a", "b", "c", "d", "e"), [(("a", "b"), "b"), (("c", "d"), "d"), (("a", "d"), "a")])
        self.assertEqual(hidden.pairs, (("a", "c"), ("a", "d"), ("b", "a"), ("b", "c"), ("b", "d"), ("d", "c")))
        self.assertTrue(hidden.known("b", "c"))
        self.assert_raises(NoList, {}, hidden.tell, ("b", "c", "e"), "c")
        self.assertEqual(hidden.sure_take(("a", "c", "d")), "a")
        self.assertEqual(hidden.how_many(), 5)

    def test_a_look_at_one_thing_tells_nothing_but_counts(self):
        hidden = told_hidden(("a", "b"), [(("a",), "a"), (("b",), "b"), (("a",), "a")])
        self.assertEqual((len(hidden), hidden.pairs, hidden.how_many()), (3, (), 2))
        self.assertNotEqual(hidden, Hidden(("a", "b")))
        for many in (2, 1, 0):
            hidden.back()
            self.assertEqual(len(hidden), many)
        self.assertEqual(hidden, Hidden(("a", "b")))

    def test_ten_things(self):
        things = set_of(10)
        hidden = Hidden(things)
        self.assertEqual((hidden.how_many(), hidden.nth_list(0)), (3628800, things))
        self.assertEqual(hidden.nth_list(3628799), things[::-1])
        self.assertEqual(hidden.nth_list(362880), (things[1], things[0]) + things[2:])
        self.assert_raises(NoNumber, {"number": 3628800}, hidden.nth_list, 3628800)
        hidden.tell(things, things[4])
        self.assertEqual(hidden.how_many(), 362880)
        hidden.tell(things[:4], things[0])
        self.assertEqual(hidden.how_many(), 90720)
        for at in range(5, 9):
            hidden.tell(things[at:], things[at])
        # 9! lists begin with one thing; of four of the others one leads, and five stand in a row.
        self.assertEqual(hidden.how_many(), 362880 // 4 // 120)
        lists = [hidden.nth_list(number) for number in range(756)]
        self.assertEqual(lists, sorted(set(lists)))
        self.assertTrue(all(hidden.fits(order) for order in lists))

    def test_one_list_is_left(self):
        order = ("oak", "fig", "yew", "ash")
        things = tuple(sorted(order))
        hidden = Hidden(things)
        for at, name in enumerate(order):
            hidden.tell(tuple(sorted(order[at:])), name)
        self.assertEqual((hidden.how_many(), hidden.nth_list(0), hidden.ask), (1, order, None))
        self.assertEqual(len(hidden.pairs), 6)

    def test_asking_leads_to_the_list(self):
        for order in permutations(set_of(4)):
            hidden = Hidden(set_of(4))
            while hidden.ask is not None:
                hidden.tell(hidden.ask, min(hidden.ask, key=order.index))
            self.assertEqual((hidden.how_many(), hidden.nth_list(0)), (1, order))

    def test_without_things(self):
        hidden = Hidden(())
        self.assertEqual(told(hidden), ((), (), (), None, 0, 1, [()]))
        self.assertIs(hidden.fits(()), True)
        self.assert_raises(NothingDone, {}, hidden.back)
        self.assert_raises(NoNumber, {"number": 1}, hidden.nth_list, 1)
        for call in (hidden.may_take, hidden.sure_take):
            self.assert_refuses(NoThing, {"name": "oak"}, call, left=("oak",))
        self.assert_refuses(NoThing, {"name": "oak"}, hidden.tell, left=("oak", "yew"), took="yew")
        self.assert_refuses(NoThing, {"name": "yew"}, hidden.known, one="yew", other="oak")
        self.assertEqual(hidden.twin(), Hidden(()))

    def test_things_that_are_none_of_them(self):
        hidden = told_hidden(("ash", "oak", "yew"), [(("ash", "oak"), "oak")])
        before = told(hidden)
        for left, took, name in ((("elm",), "elm", "elm"), (("elm", "zz"), "ash", "elm"), (("ash", "zz"), "elm", "zz"),
                                 (("ash", "oak"), "yew", "yew"), (("ash", "oak"), "elm", "elm"),
                                 (("ash",), "oak", "oak"), (("ash", "elm"), "ash", "elm"), (("yew",), "zz", "zz")):
            self.assert_refuses(NoThing, {"name": name}, hidden.tell, left=left, took=took)
        self.assert_refuses(NoList, {}, hidden.tell, left=("ash", "oak", "yew"), took="ash")
        for left, name in ((("elm",), "elm"), (("ash", "elm", "zz"), "elm"), (("oak", "yew", "zz"), "zz")):
            for call in (hidden.may_take, hidden.sure_take):
                self.assert_refuses(NoThing, {"name": name}, call, left=left)
        for one, other, name in (("elm", "zz", "elm"), ("ash", "zz", "zz"), ("zz", "ash", "zz"), ("zz", "zz", "zz")):
            self.assert_refuses(NoThing, {"name": name}, hidden.known, one=one, other=other)
        self.assertEqual(told(hidden), before)

    def test_values_and_ways_of_calling(self):
        hidden = told_hidden(("ash", "fig", "oak", "yew"), [(("ash", "oak", "yew"), "oak"), (("ash", "yew"), "yew")])
        self.assert_gives(4, hidden.how_many)
        self.assert_gives(("oak", "fig", "yew", "ash"), hidden.nth_list, number=1)
        self.assert_gives(True, hidden.fits, order=("oak", "yew", "ash", "fig"))
        self.assert_gives(False, hidden.fits, order=("oak", "ash", "yew", "fig"))
        self.assert_gives(True, hidden.known, one="oak", other="ash")
        self.assert_gives(False, hidden.known, one="ash", other="ash")
        self.assert_gives(("fig", "yew"), hidden.may_take, left=("ash", "fig", "yew"))
        self.assert_gives(None, hidden.sure_take, left=("ash", "fig", "yew"))
        self.assert_gives("oak", hidden.sure_take, left=("ash", "oak", "yew"))
        self.assert_gives("fig", hidden.sure_take, left=("fig",))
        self.assert_raises(NoNumber, {"number": 4}, hidden.nth_list, number=4)

    def test_lists_in_place_of_tuples(self):
        one = told_hidden(("ash", "fig", "oak"), [(("ash", "oak"), "oak")])
        other = told_hidden(["ash", "fig", "oak"], [(["ash", "oak"], "oak")])
        self.assert_like(one, other)
        self.assertEqual(told(one), told(other))
        named = Hidden(things=["ash", "fig", "oak"])
        named.tell(left=["ash", "oak"], took="oak")
        self.assert_like(named, one)
        for value in (other.things, other.looks, other.looks[0], other.looks[0][0], other.pairs, other.pairs[0],
                      other.ask, other.nth_list(0), other.may_take(["ash", "fig"])):
            self.assertIs(type(value), tuple)

    def test_what_is_handed_in_is_copied(self):
        things, left = ["ash", "fig", "oak"], ["ash", "fig"]
        hidden = Hidden(things)
        hidden.tell(left, "fig")
        before = told(hidden)
        self.assertEqual((things, left), (["ash", "fig", "oak"], ["ash", "fig"]))
        things.append("yew")
        left.clear()
        self.assertEqual(told(hidden), before)

    def test_twins_share_nothing(self):
        hidden = told_hidden(("ash", "fig", "oak"), [(("ash", "fig"), "fig"), (("fig", "oak"), "oak")])
        twin = hidden.twin()
        self.assert_like(hidden, twin)
        before = told(hidden)
        self.assertEqual(told(twin), before)
        twin.back()
        self.assert_unlike(hidden, [twin])
        self.assertEqual(told(hidden), before)
        twin.back()
        twin.tell(("ash", "oak"), "ash")
        self.assert_raises(NoList, {}, twin.tell, ("ash", "oak"), "oak")
        self.assertEqual(told(hidden), before)
        self.assertEqual(told(twin), told(told_hidden(("ash", "fig", "oak"), [(("ash", "oak"), "ash")])))
        third = hidden.twin()
        hidden.back()
        self.assertEqual(told(third), before)

    def test_equal(self):
        looks = [(("ash", "fig"), "fig"), (("fig", "oak"), "oak")]
        hidden = told_hidden(("ash", "fig", "oak"), looks)
        self.assert_like(hidden, told_hidden(("ash", "fig", "oak"), looks))
        self.assert_unlike(hidden, [
            told_hidden(("ash", "fig", "oak"), looks[::-1]), told_hidden(("ash", "fig", "oak"), looks[:1]),
            told_hidden(("ash", "fig", "oak", "yew"), looks), told_hidden(("ash", "fig", "oak"), looks + looks[:1]),
            Hidden(("ash", "fig", "oak")), hidden.things, hidden.looks, None, 2, "", Turns(), [hidden], (hidden,),
        ])

    def test_no_setters(self):
        hidden = told_hidden(("ash", "fig", "oak"), [(("ash", "fig"), "fig")])
        self.assert_no_setters(hidden, ("things", "looks", "pairs", "ask"))


class LooksTest(HiddenCalls):
    def test_all_short_rows(self):
        for row in rows_to(4):
            turns, things = turns_of(row), set_of(len(row))
            for names in permutations(things):
                for many in range(len(row) + 1):
                    looks = tuple((tuple(sorted(names[at:])), names[at]) for at in range(many) if row[at] == "b")
                    self.assertEqual(looks_of(turns, things, names[:many]), looks)

    def test_his_list_fits_what_he_took(self):
        for row in rows_to(5):
            things, order = set_of(len(row)), NAMES[:len(row)]
            hidden = told_hidden(things, looks_of(turns_of(row), things, plain_taken(row, things, order)))
            self.assertTrue(hidden.fits(order))
            self.assertEqual(len(hidden), row.count("b"))

    def test_values_and_ways_of_calling(self):
        told = {"turns": Turns.of("b 1; a 1; b 1"), "things": ("ash", "fig", "oak")}
        self.assert_gives(((("ash", "fig", "oak"), "fig"), (("ash",), "ash")), looks_of, **told,
                          taken=("fig", "oak", "ash"))
        self.assert_gives(((("ash", "fig", "oak"), "oak"),), looks_of, **told, taken=("oak", "ash"))
        self.assert_gives((), looks_of, **told, taken=())
        self.assert_gives((), looks_of, turns=Turns(), things=(), taken=())
        self.assert_gives((), looks_of, turns=Turns.of("a 2"), things=("ash", "fig"), taken=("fig", "ash"))

    def test_errors_in_their_order(self):
        turns, things = Turns.of("b 1; a 1; b 1"), ("ash", "fig", "oak")
        for taken, name in ((("elm",), "elm"), (("ash", "ash"), "ash"), (("ash", "fig", "fig"), "fig"),
                            (("zz", "elm"), "zz"), (("ash", "oak", "zz"), "zz"), (("oak", "ash", "fig", "oak"), "oak"),
                            (("oak", "ash", "fig", "zz", "elm"), "zz"), (("fig", "oak", "fig", "elm"), "fig")):
            self.assert_refuses(NoThing, {"name": name}, looks_of, turns=turns, things=things, taken=taken)
        self.assert_refuses(NoThing, {"name": "ash"}, looks_of, turns=Turns(), things=(), taken=("ash",))
        for own in (Turns(), Turns.of("a 2"), Turns.of("b 4"), Turns((("b", GREAT),))):
            for taken in ((), ("elm",), ("ash", "ash")):
                self.assert_refuses(OtherThings, {}, looks_of, turns=own, things=things, taken=taken)


class SurveyedTest(Calls):
    def test_all_lists(self):
        for many in range(6):
            for order in permutations(set_of(many)):
                pairs = []

                def asker(pair):
                    pairs.append(pair)
                    return min(pair, key=order.index)

                self.assertEqual(surveyed(set_of(many), asker), order)
                self.assertTrue(all(type(pair) is tuple and len(pair) == 2 and pair[0] < pair[1] for pair in pairs))
                self.assertTrue(all(name in order for pair in pairs for name in pair))

    def test_ten_things(self):
        order = NAMES[2:]
        self.assertEqual(surveyed(tuple(sorted(order)), lambda pair: min(pair, key=order.index)), order)

    def test_ways_of_calling(self):
        things = ("ash", "elm", "fig", "oak")
        self.assert_gives(("oak", "fig", "elm", "ash"), surveyed, things=things, asker=max)
        self.assert_gives(things, surveyed, things=things, asker=min)
        self.assertEqual(surveyed(asker=max, things=listed(things)), things[::-1])

    def test_nothing_to_ask(self):
        def asker(pair):
            raise AssertionError(pair)

        self.assert_gives((), surveyed, things=(), asker=asker)
        self.assert_gives(("oak",), surveyed, things=("oak",), asker=asker)

    def test_what_the_asker_raises_is_passed_on(self):
        for error in (KeyError, ValueError, NoList, StopIteration, ZeroDivisionError):
            def asker(pair):
                raise raised

            raised = error()
            with self.assertRaises(error) as caught:
                surveyed(("ash", "fig"), asker)
            self.assertIs(caught.exception, raised)

    def test_raised_at_a_later_pair(self):
        asked = []

        def asker(pair):
            asked.append(pair)
            if len(asked) == 3:
                raise NoThing(pair[0])
            return pair[0]

        with self.assertRaises(NoThing) as caught:
            surveyed(("ash", "fig", "oak", "yew"), asker)
        self.assertEqual((caught.exception.name, len(asked)), (asked[-1][0], 3))


if __name__ == "__main__":
    unittest.main()
