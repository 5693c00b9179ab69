import random
import unittest

from heirturns import changes as changes_file, turns as turns_file
from heirturns.changes import (
    Watch, by_lists, by_turns, list_exchanged, list_places, share_change, thing_left_out, thing_put, turn_places,
    with_thing,
)
from heirturns.errors import Known, NoPlace, NothingDone, NoThing, OtherThings
from heirturns.turns import Turns, turns_of
from tests.calls import Calls
from tests.examples import check_examples
from tests.models import GREAT, NAMES, UNFIT, lists, plain_share, plain_taken, rows_to, subsets

EXAMPLES = r'''
    >>> turns, hers, his = Turns.of("a 1; b 1; a 1; b 1"), ("x", "y", "z", "w"), ("y", "x", "z", "w")
    >>> list_exchanged(hers, 1), list_exchanged(hers, 3), thing_put(hers, 1, "v"), thing_put(hers, 5, "v"), thing_left_out(hers, "y"), share_change(("x", "z"), ("y", "z"))
    (('y', 'x', 'z', 'w'), ('x', 'y', 'w', 'z'), ('v', 'x', 'y', 'z', 'w'), ('x', 'y', 'z', 'w', 'v'), ('x', 'z', 'w'), (('x',), ('y',)))
    >>> by_lists(turns, hers, his, "a", 1), by_lists(turns, hers, his, "a", 2), by_lists(turns, hers, his, "a", 3), list_places(turns, hers, his, "a"), list_places(turns, hers, his, "b")
    ((('x',), ('y',)), ((), ()), (('z',), ('w',)), (1, 3), ())
    >>> by_turns(turns, hers, his, 1), by_turns(turns, hers, his, 2), by_turns(turns, hers, his, 3), turn_places(turns, hers, his)
    (((), ()), (('z',), ('y',)), (('z',), ('w',)), (2, 3))
    >>> more = with_thing(turns, hers, his, "b", "v", 1, 4)
    >>> more[0].text, more[1], more[2]
    ('a 1; b 1; a 1; b 2', ('v', 'x', 'y', 'z', 'w'), ('y', 'x', 'z', 'v', 'w'))
    >>> watch = Watch(turns, hers, his)
    >>> watch.share, watch.exchange_list("a", 1), watch.exchange_turns(2), watch.told, watch.turns.text, watch.hers, len(watch)
    (('x', 'z'), ('y', 'z'), ('x', 'y'), (('x', 'z'), ('y', 'z'), ('x', 'y')), 'a 2; b 2', ('y', 'x', 'z', 'w'), 2)
    >>> mate = watch.twin()
    >>> mate == watch, mate.back(), mate == watch, mate.share, watch.share, watch.add("b", "v", 1, 5), mate.back(), mate.his, len(mate)
    (True, None, False, ('y', 'z'), ('x', 'y'), ('v', 'y'), None, ('y', 'x', 'z', 'w'), 0)
    >>> mate.back()
    raises NothingDone()
    >>> list_exchanged(hers, 4)
    raises NoPlace(number=4)
    >>> by_turns(turns, hers, ("x", "y"), 9)
    raises OtherThings()
'''

NO_PLACES = (-GREAT, -2, -1, 0)


def exchange(row, place):
    """The row with the places from 1 number place and place + 1 exchanged."""
    return row[:place - 1] + (row[place], row[place - 1]) + row[place + 1:]


def change(before, after):
    return tuple(sorted(set(before) - set(after))), tuple(sorted(set(after) - set(before)))


def games(most):
    """All rows to so many turns, with all lists of his and one of hers."""
    return [(row, turns_of(row), NAMES[:len(row)], his) for row in rows_to(most) for his in lists(len(row))]


def state(watch):
    """All that a Watch tells."""
    return watch.turns.runs, watch.hers, watch.his, watch.share, watch.told, len(watch)


class ListsTest(Calls):
    def test_exchanged(self):
        for many in range(6):
            for place in range(-2, 9):
                if 1 <= place < many:
                    self.assert_gives(exchange(NAMES[:many], place), list_exchanged, things=NAMES[:many], place=place)
                else:
                    self.assert_refuses(NoPlace, {"number": place}, list_exchanged, things=NAMES[:many], place=place)
        for place in (-GREAT, GREAT):
            self.assert_refuses(NoPlace, {"number": place}, list_exchanged, things=NAMES, place=place)

    def test_put(self):
        for many in range(6):
            for place in range(-2, 9):
                told = {"things": NAMES[:many], "place": place, "name": "zz"}
                if 1 <= place <= many + 1:
                    found = list(NAMES[:many])
                    found.insert(place - 1, "zz")
                    self.assert_gives(tuple(found), thing_put, **told)
                else:
                    self.assert_refuses(NoPlace, {"number": place}, thing_put, **told)

    def test_put_in_the_order_of_checks(self):
        for place in (1, 2, 3, 4):
            for name in ("ash", "elm", "fig"):
                told = {"things": ("fig", "ash", "elm"), "place": place, "name": name}
                self.assert_refuses(Known, {"name": name}, thing_put, **told)
        for place in (-GREAT, -1, 0, 5, GREAT):
            told = {"things": ("fig", "ash", "elm"), "place": place, "name": "ash"}
            self.assert_refuses(NoPlace, {"number": place}, thing_put, **told)

    def test_left_out(self):
        for at in range(5):
            self.assert_gives(NAMES[:at] + NAMES[at + 1:5], thing_left_out, things=NAMES[:5], name=NAMES[at])
        for things in ((), ("fig",), NAMES[:5]):
            for name in ("zz", "fi", "g"):
                self.assert_refuses(NoThing, {"name": name}, thing_left_out, things=things, name=name)

    def test_share_change(self):
        for before in subsets(NAMES[:4]):
            for after in subsets(NAMES[:4]):
                self.assert_gives(change(before, after), share_change, before=before, after=after)
        self.assert_gives((("ash", "oak"), ("elm", "yew")), share_change, before=("ash", "fig", "oak"),
                          after=("elm", "fig", "yew"))


class ChangesTest(Calls):
    def test_examples(self):
        self.assertEqual(check_examples(self, {**vars(turns_file), **vars(changes_file)}, EXAMPLES), 9)

    def test_by_lists_and_by_turns(self):
        for row, turns, hers, his in games(4):
            share = plain_share(row, hers, his)
            told = {"a": [], "b": [], "turns": []}
            for place in range(1, len(row)):
                found = by_lists(turns, hers, his, "a", place)
                self.assertEqual(found, change(share, plain_share(row, exchange(hers, place), his)))
                told["a"].append(found)
                found = by_lists(turns, hers, his, "b", place)
                self.assertEqual(found, change(share, plain_share(row, hers, exchange(his, place))))
                told["b"].append(found)
                found = by_turns(turns, hers, his, place)
                self.assertEqual(found, change(share, plain_share(exchange(row, place), hers, his)))
                told["turns"].append(found)
            for found in told.values():
                self.assertTrue(all(len(gone) == len(come) <= 1 for gone, come in found))
            places = {kind: tuple(at + 1 for at, own in enumerate(found) if own != ((), ()))
                      for kind, found in told.items()}
            self.assertEqual(list_places(turns, hers, his, "a"), places["a"])
            self.assertEqual(list_places(turns, hers, his, "b"), places["b"])
            self.assertEqual(turn_places(turns, hers, his), places["turns"])

    def test_one_thing_each_at_the_most_with_twelve_things(self):
        rng = random.Random(3)
        for turn in range(12):
            hers, his = tuple(rng.sample(NAMES, 12)), tuple(rng.sample(NAMES, 12))
            row = tuple(rng.choice("ab") for at in range(12))
            for place in range(1, 12):
                for gone, come in (by_lists(turns_of(row), hers, his, "a", place),
                                   by_lists(turns_of(row), hers, his, "b", place),
                                   by_turns(turns_of(row), hers, his, place)):
                    self.assertEqual(len(gone), len(come))
                    self.assertLessEqual(len(gone), 1)

    def test_no_such_place(self):
        for many in range(5):
            told = {"turns": Turns([("b", many)] if many else ()), "hers": NAMES[:many], "his": NAMES[:many][::-1]}
            for place in (*NO_PLACES, many, many + 1, GREAT):
                if place < 1 or place >= many:
                    self.assert_refuses(NoPlace, {"number": place}, by_turns, **told, place=place)
                    for who in "ab":
                        self.assert_refuses(NoPlace, {"number": place}, by_lists, **told, who=who, place=place)

    def test_with_thing(self):
        for row, turns, hers, his in games(3):
            for heir in "ab":
                for place in range(1, len(row) + 2):
                    for other in range(1, len(row) + 2):
                        found = with_thing(turns, hers, his, heir, "new", place, other)
                        self.assertIs(type(found), tuple)
                        more, mine, yours = found
                        self.assertEqual(more, turns_of(row + (heir,)))
                        self.assertEqual((mine[place - 1], yours[other - 1]), ("new", "new"))
                        self.assertEqual(tuple(name for name in mine if name != "new"), hers)
                        self.assertEqual(tuple(name for name in yours if name != "new"), his)
                        self.check_never_worse(row, (hers, his), row + (heir,), (mine, yours))

    def check_never_worse(self, row, before, more, after):
        """At each turn that was there the heir takes what is not worse on their own list."""
        for heir, one, other in zip(row, plain_taken(row, *before), plain_taken(more, *after)):
            order = after[0] if heir == "a" else after[1]
            self.assertLessEqual(order.index(other), order.index(one))

    def test_with_thing_to_twelve_things(self):
        rng = random.Random(4)
        for turn in range(30):
            hers, his = tuple(rng.sample(NAMES[:11], 11)), tuple(rng.sample(NAMES[:11], 11))
            row = tuple(rng.choice("ab") for at in range(11))
            more, mine, yours = with_thing(turns_of(row), hers, his, "a", "zz", rng.randint(1, 12), rng.randint(1, 12))
            self.check_never_worse(row, (hers, his), row + ("a",), (mine, yours))

    def test_with_thing_in_the_order_of_checks(self):
        told = {"turns": Turns.of("a 1; b 1"), "hers": ("fig", "ash"), "his": ("ash", "fig"), "heir": "b"}
        for place in (-GREAT, -1, 0, 4, GREAT):
            for name in ("fig", "new"):
                for other in (1, 0, 4, 9):
                    self.assert_refuses(NoPlace, {"number": place}, with_thing, **told, name=name, place=place,
                                        other=other)
            for name in ("fig", "ash"):
                self.assert_refuses(Known, {"name": name}, with_thing, **told, name=name, place=3, other=place)
            self.assert_refuses(NoPlace, {"number": place}, with_thing, **told, name="new", place=1, other=place)
        self.assert_refuses(Known, {"name": "ash"}, with_thing, **told, name="ash", place=2, other=2)

    def test_without_things(self):
        none = {"turns": Turns(), "hers": (), "his": ()}
        for who in "ab":
            self.assert_gives((), list_places, **none, who=who)
            for place in (-1, 0, 1, GREAT):
                self.assert_refuses(NoPlace, {"number": place}, by_lists, **none, who=who, place=place)
        self.assert_gives((), turn_places, **none)
        self.assert_gives((Turns.of("a 1"), ("fig",), ("fig",)), with_thing, **none, heir="a", name="fig", place=1,
                          other=1)
        self.assert_refuses(NoPlace, {"number": 0}, by_turns, **none, place=0)
        self.assert_gives(((), ()), share_change, before=(), after=())

    def test_values_and_ways_of_calling(self):
        told = {"turns": Turns.of("a 1; b 1; a 1; b 1"), "hers": ("oak", "fig", "yew", "ash"),
                "his": ("fig", "oak", "yew", "ash")}
        self.assert_gives((("oak",), ("fig",)), by_lists, **told, who="a", place=1)
        self.assert_gives(((), ()), by_lists, **told, who="b", place=1)
        self.assert_gives((("yew",), ("ash",)), by_lists, **told, who="a", place=3)
        self.assert_gives((1, 3), list_places, **told, who="a")
        self.assert_gives((), list_places, **told, who="b")
        self.assert_gives((("yew",), ("fig",)), by_turns, **told, place=2)
        self.assert_gives((2, 3), turn_places, **told)
        late = {**told, "turns": Turns.of("b 1; a 1; b 1; a 1"), "his": ("oak", "fig", "yew", "ash")}
        self.assert_gives((("fig",), ("oak",)), by_lists, **late, who="b", place=1)
        self.assert_gives((("ash",), ("yew",)), by_lists, **late, who="b", place=3)
        self.assert_gives((1, 3), list_places, **late, who="b")
        self.assert_gives((Turns.of("b 1; a 1; b 1; a 2"), ("oak", "elm", "fig", "yew", "ash"),
                           ("oak", "fig", "yew", "ash", "elm")),
                          with_thing, **late, heir="a", name="elm", place=2, other=5)

    def test_other_things_ahead_of_all_else(self):
        for told in UNFIT:
            self.assert_refuses(OtherThings, {}, Watch, **told)
            self.assert_refuses(OtherThings, {}, turn_places, **told)
            for place in (-1, 0, 1, 9):
                self.assert_refuses(OtherThings, {}, by_turns, **told, place=place)
            for who in "ab":
                self.assert_refuses(OtherThings, {}, list_places, **told, who=who)
                for place in (-1, 0, 1, 9):
                    self.assert_refuses(OtherThings, {}, by_lists, **told, who=who, place=place)
                    for name in ("fig", "zz"):
                        self.assert_refuses(OtherThings, {}, with_thing, **told, heir=who, name=name, place=place,
                                            other=place)


class WatchTest(Calls):
    def check_watch(self, watch, row, hers, his, told):
        share = plain_share(row, hers, his)
        self.assertEqual(state(watch), (turns_of(row).runs, hers, his, share, tuple(told), len(told) - 1))

    def test_deeds_of_each_kind_and_back(self):
        rng = random.Random(6)
        for turn in range(20):
            many = rng.randint(0, 6)
            now = (tuple(rng.choice("ab") for at in range(many)), NAMES[:many], tuple(rng.sample(NAMES[:many], many)))
            watch = Watch(turns_of(now[0]), now[1], now[2])
            past, told = [], [plain_share(*now)]
            for deed in range(12):
                found, then = self.done(watch, rng, *now)
                if then is not None:
                    past.append(now)
                    now = then
                    told.append(plain_share(*now))
                    self.assertEqual(found, told[-1])
                self.check_watch(watch, *now, told)
            row, hers, his = (past + [now])[0]
            beginning, twin = Watch(turns_of(row), hers, his), watch.twin()
            before = state(twin)
            while past:
                now = past.pop()
                told.pop()
                self.assertIsNone(watch.back())
                self.check_watch(watch, *now, told)
            self.assert_raises(NothingDone, {}, watch.back)
            self.assert_like(watch, beginning)
            self.check_watch(watch, *now, told)
            self.assertEqual(state(twin), before)

    def done(self, watch, rng, row, hers, his):
        """Does a deed that may be refused; what it returned, and what is there then, None if it was refused."""
        before = state(watch)
        kind, place, other, heir = rng.randint(0, 2), rng.randint(0, 8), rng.randint(0, 8), rng.choice("ab")
        name = rng.choice(NAMES[:10])
        try:
            if kind == 0:
                found = watch.exchange_list(heir, place)
                mine = exchange(hers, place) if heir == "a" else hers
                return found, (row, mine, exchange(his, place) if heir == "b" else his)
            if kind == 1:
                found = watch.exchange_turns(place)
                return found, (exchange(row, place), hers, his)
            found = watch.add(heir, name, place, other)
            mine = hers[:place - 1] + (name,) + hers[place - 1:]
            return found, (row + (heir,), mine, his[:other - 1] + (name,) + his[other - 1:])
        except (NoPlace, Known):
            self.assertEqual(state(watch), before)
            return None, None

    def test_refused_deeds_change_nothing(self):
        watch = Watch(Turns.of("a 1; b 1; a 1"), ("fig", "ash", "elm"), ("ash", "fig", "elm"))
        watch.exchange_list("b", 2)
        before, twin = state(watch), watch.twin()
        for place in (*NO_PLACES, 3, 4, GREAT):
            for who in "ab":
                self.assert_refuses(NoPlace, {"number": place}, watch.exchange_list, who=who, place=place)
            self.assert_refuses(NoPlace, {"number": place}, watch.exchange_turns, place=place)
        for place in (*NO_PLACES, 5, GREAT):
            for name in ("ash", "new"):
                self.assert_refuses(NoPlace, {"number": place}, watch.add, heir="a", name=name, place=place, other=0)
            self.assert_refuses(Known, {"name": "ash"}, watch.add, heir="a", name="ash", place=4, other=place)
            self.assert_refuses(NoPlace, {"number": place}, watch.add, heir="b", name="new", place=4, other=place)
        self.assertEqual(state(watch), before)
        self.assert_like(watch, twin)
        watch.back()
        self.assertEqual(len(watch), 0)

    def test_without_things(self):
        watch = Watch(Turns(), (), ())
        self.assertEqual(state(watch), ((), (), (), (), ((),), 0))
        self.assert_raises(NothingDone, {}, watch.back)
        self.assert_raises(NoPlace, {"number": 1}, watch.exchange_turns, 1)
        self.assertEqual(watch.add("b", "fig", 1, 1), ())
        self.assertEqual(watch.add("a", "ash", 1, 2), ("ash",))
        self.assertEqual(state(watch), ((("b", 1), ("a", 1)), ("ash", "fig"), ("fig", "ash"), ("ash",),
                                        ((), (), ("ash",)), 2))

    def test_lists_and_names(self):
        watch = Watch(his=["ash", "fig"], hers=["fig", "ash"], turns=Turns.of("a 1; b 1"))
        self.assert_like(watch, Watch(Turns.of("a 1; b 1"), ("fig", "ash"), ("ash", "fig")))
        self.assertEqual(watch.exchange_list(place=1, who="b"), ("fig",))
        self.assertEqual(watch.exchange_turns(place=1), ("ash",))
        self.assertEqual(watch.add(other=3, place=1, name="elm", heir="a"), ("ash", "elm"))
        self.assertEqual(state(watch), ((("b", 1), ("a", 2)), ("elm", "fig", "ash"), ("fig", "ash", "elm"),
                                        ("ash", "elm"), (("fig",), ("fig",), ("ash",), ("ash", "elm")), 3))

    def test_what_is_handed_in_is_copied(self):
        hers, his = ["fig", "ash"], ["ash", "fig"]
        watch = Watch(Turns.of("a 1; b 1"), hers, his)
        before = state(watch)
        hers.reverse()
        his.append("oak")
        self.assertEqual(state(watch), before)
        watch.add("a", "new", 1, 1)
        self.assertEqual((hers, his), (["ash", "fig"], ["ash", "fig", "oak"]))

    def test_twins_share_nothing(self):
        watch = Watch(Turns.of("a 1; b 1; a 1"), ("fig", "ash", "elm"), ("ash", "fig", "elm"))
        watch.exchange_turns(1)
        watch.add("b", "oak", 1, 1)
        twin, before = watch.twin(), state(watch)
        self.assert_like(twin, watch)
        twin.exchange_list("a", 3)
        self.assert_unlike(watch, [twin])
        for many in (2, 1, 0):
            twin.back()
            self.assertEqual(len(twin), many)
        self.assert_raises(NothingDone, {}, twin.back)
        self.assertEqual(state(watch), before)
        twin = watch.twin()
        watch.back()
        watch.back()
        self.assertEqual(state(twin), before)
        twin.back()
        self.assertEqual(twin.turns, Turns.of("b 1; a 2"))

    def test_equal_if_the_same_is_told(self):
        told = Turns.of("a 2"), ("fig", "ash"), ("ash", "fig")
        watch, other = Watch(*told), Watch(*told)
        self.assert_like(watch, other)
        watch.exchange_list("a", 1)
        other.exchange_turns(1)
        self.assert_unlike(watch, [other])
        watch.exchange_turns(1)
        other.exchange_list("a", 1)
        # Other deeds, but the same lists, turns and shares.
        self.assert_like(watch, other)
        watch.exchange_list("b", 1)
        watch.exchange_list("b", 1)
        self.assert_unlike(watch, [other])

    def test_unlike(self):
        told = Turns.of("b 2"), ("fig", "ash"), ("ash", "fig")
        watch = Watch(*told)
        self.assert_unlike(watch, [
            Watch(Turns.of("b 1; a 1"), *told[1:]), Watch(told[0], told[2], told[2]), Watch(*told[:2], told[1]),
            Watch(Turns(), (), ()), told, list(told), told[0], None, 0, (), "", (watch,), [watch],
        ])

    def test_no_setters_and_no_iteration(self):
        watch = Watch(Turns.of("a 1; b 1"), ("fig", "ash"), ("ash", "fig"))
        self.assert_no_setters(watch, ("turns", "hers", "his", "share", "told"))
        self.assert_no_iteration(watch)
        self.assert_no_iteration(Watch(Turns(), (), ()))


if __name__ == "__main__":
    unittest.main()
