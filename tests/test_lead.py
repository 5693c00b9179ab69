import unittest
from itertools import product

from heirturns import lead as lead_file, turns as turns_file
from heirturns.errors import NoPlace, OtherThings
from heirturns.lead import (
    after, against, compare, fewest_steps, is_against, is_steps, most_worse, never_worse, steps, worse_at,
)
from heirturns.picks import kth_best, shares
from heirturns.turns import Turns, exchanged, handed, swapped, turns_of
from tests.calls import Calls, nested
from tests.examples import check_examples
from tests.models import GREAT, NAMES, is_row_above, is_worse, lists, places_of, plain_share, rows, times

EXAMPLES = r'''
    >>> one, other = Turns.of("a 1; b 2; a 1"), Turns.of("b 1; a 2; b 1")
    >>> third, four = Turns.of("a 2; b 2"), Turns.of("b 2; a 1; b 1")
    >>> never_worse(third, one), never_worse(one, third), never_worse(one, other), never_worse(other, one), never_worse(one, four), never_worse(four, one), never_worse(one, one)
    (True, False, False, False, True, False, True)
    >>> against(third, one), against(one, other), against(other, one), is_against(four, one, 2), is_against(one, other, 1), is_against(one, other, 2), is_against(one, other, 3), is_against(one, other, None)
    (None, 2, 1, True, False, True, False, False)
    >>> most_worse(one, other), most_worse(one, third), most_worse(third, one), most_worse(four, one), compare(third, one), compare(one, other), compare(four, one), compare(one, one)
    (1, 2, 0, None, 'better', 'apart', 'worse', 'alike')
    >>> likes = ("x", "y", "z", "w")
    >>> worse_at(one, other, likes, likes), worse_at(other, one, likes, likes), worse_at(third, one, likes, ("w", "z", "y", "x")), worse_at(one, third, likes, ("w", "z", "y", "x"))
    (2, 1, None, None)
    >>> is_steps(third, one, steps(third, one)), len(steps(third, one)), is_steps(one, four, steps(one, four)), fewest_steps(one, four), steps(one, other), fewest_steps(one, other), steps(one, one)
    (True, 2, True, 3, None, None, ())
    >>> after(one, (("swap", 3),)).text, after(four, (("give", 4), ("swap", 2), ("swap", 1))) == one, is_steps(third, one, (("swap", 2), ("swap", 3))), is_steps(one, four, (("give", 2),)), after(one, ()) == one
    ('a 1; b 1; a 1; b 1', True, False, False, True)
    >>> early, late = Turns((("a", 10 ** 29), ("b", 10 ** 29))), Turns((("b", 10 ** 29), ("a", 10 ** 29)))
    >>> never_worse(early, late), against(late, early) is not None, most_worse(late, early) == 10 ** 29, fewest_steps(early, late) == 10 ** 58
    (True, True, True, True)
    >>> after(one, (("swap", 3), ("swap", 3)))
    raises NoPlace(number=3)
    >>> never_worse(one, Turns.of("a 3"))
    raises OtherThings()
'''

NO_STEPS = (
    None, True, False, 0, 1, -3, 10 ** 500, "", "swap", ("swap", 1), ("give", 2), [], [("swap", 1)], (["swap", 1],),
    ((),), (None,), (("swap",),), (("swap", 1, 1),), (("swap", "1"),), (("swap", True),), (("swap", None),),
    (("swap", (1,)),), (("Swap", 1),), (("", 1),), ((None, 1),), ((["swap"], 1),), ((1, "swap"),), (("take", 1),),
    (("swap", 0),), (("swap", -1),), (("swap", 10 ** 500),), (("give", 0),), (("give", -10 ** 500),),
    (("swap", 1), None), (("swap", 1), ["give", 2]), ("swap",), ("s1",), nested(12), [nested(11)],
    (("swap", nested(10)),), (("give", 4),) * 500,
)


def pairs(size):
    """All pairs of rows of so many turns."""
    return list(product(rows(size), repeat=2))


def one_step_on(row):
    """What one step makes of the row, by step."""
    found = {}
    for at, heir in enumerate(row):
        if row[at:at + 2] == ("b", "a"):
            found["swap", at + 1] = row[:at] + ("a", "b") + row[at + 2:]
        if heir == "b" and "b" not in row[at + 1:]:
            found["give", at + 1] = row[:at] + ("a",) + row[at + 1:]
    return found


def reached_from(row):
    """All rows to which steps lead, and how many steps are needed: stage by stage."""
    found = {row: 0}
    stage = [row]
    while stage:
        stage = [new for old in stage for new in one_step_on(old).values() if new not in found]
        far = max(found.values()) + 1
        found.update({new: far for new in stage})
        stage = sorted(set(stage))
    return found


class NeverWorseTest(Calls):
    def test_examples(self):
        self.assertEqual(check_examples(self, {**vars(turns_file), **vars(lead_file)}, EXAMPLES), 9)

    def test_all_lists_of_both(self):
        for size in range(4):
            for one, other in pairs(size):
                worse = [(hers, his) for hers in lists(size) for his in lists(size)
                         if is_worse(hers, plain_share(one, hers, his), plain_share(other, hers, his))]
                left, right = turns_of(one), turns_of(other)
                self.assertIs(never_worse(left, right), worse == [])
                self.assertIs(never_worse(left, right), is_row_above(one, other))

    def test_all_lists_of_four_things(self):
        hers = NAMES[:4]
        for one, other in pairs(4):
            worse = any(is_worse(hers, plain_share(one, hers, his), plain_share(other, hers, his))
                        for his in lists(4))
            self.assertIs(never_worse(turns_of(one), turns_of(other)), not worse)

    def test_then_other_is_worse_for_bob_with_no_lists(self):
        for one, other in pairs(3):
            if never_worse(turns_of(one), turns_of(other)):
                for hers, his in product(lists(3), repeat=2):
                    mine, yours = plain_share(one, hers, his, "b"), plain_share(other, hers, his, "b")
                    self.assertIsNone(is_worse(his, yours, mine))

    def test_beginnings(self):
        for size in range(7):
            for one, other in pairs(size):
                self.assertIs(never_worse(turns_of(one), turns_of(other)), is_row_above(one, other))

    def test_compare(self):
        words = {(True, True): "alike", (True, False): "better", (False, True): "worse", (False, False): "apart"}
        for size in range(6):
            for one, other in pairs(size):
                both = is_row_above(one, other), is_row_above(other, one)
                self.assertEqual(compare(turns_of(one), turns_of(other)), words[both])
                self.assertEqual(both == (True, True), one == other)

    def test_against(self):
        for size in range(6):
            for one, other in pairs(size):
                left, right = turns_of(one), turns_of(other)
                mine, yours = places_of(one, "a"), places_of(other, "a")
                numbers = [at + 1 for at, place in enumerate(yours) if at >= len(mine) or mine[at] > place]
                for number in range(-1, size + 2):
                    self.assertIs(is_against(left, right, number), number in numbers)
                if numbers:
                    self.assertIn(against(left, right), numbers)
                    self.assertIs(type(against(left, right)), int)
                else:
                    self.assertIsNone(against(left, right))

    def test_one_list_of_both_shows_it(self):
        order = ("oak", "ash", "yew", "elm", "bay")
        for one, other in pairs(5):
            number = against(turns_of(one), turns_of(other))
            if number is not None:
                mine, yours = (shares(turns_of(row), order, order)[0] for row in (one, other))
                place = places_of(other, "a")[number - 1]
                self.assertEqual(kth_best(order, yours, number), order[place - 1])
                self.assertTrue(number > len(mine) or order.index(kth_best(order, mine, number)) >= place)

    def test_against_things_of_every_kind(self):
        one, other = Turns.of("a 1; b 2; a 1"), Turns.of("b 1; a 2; b 1")
        self.assert_gives(True, is_against, one=one, other=other, thing=2)
        for thing in (None, True, False, 0, 1, 3, -2, 10 ** 500, -10 ** 500, "2", "", (), [], (2,), [2], nested(12)):
            self.assert_gives(False, is_against, one=one, other=other, thing=thing)
        self.assertIs(is_against(Turns.of("b 1"), Turns.of("a 1"), True), False)
        self.assertIs(is_against(Turns.of("b 1"), Turns.of("a 1"), 1), True)

    def test_most_worse(self):
        for size in range(7):
            for one, other in pairs(size):
                mine, yours = places_of(one, "a"), places_of(other, "a")
                most = None if len(mine) < len(yours) else max([0] + [at - to for at, to in zip(mine, yours)])
                self.assertEqual(most_worse(turns_of(one), turns_of(other)), most)

    def test_worse_at(self):
        for size in range(4):
            for one, other in pairs(size):
                left, right = turns_of(one), turns_of(other)
                for hers, his in product(lists(size), repeat=2):
                    number = is_worse(hers, plain_share(one, hers, his), plain_share(other, hers, his))
                    self.assertEqual(worse_at(left, right, hers, his), number)

    def test_worse_at_when_there_is_none(self):
        hers, his = ("oak", "elm", "ash"), ("elm", "oak", "ash")
        self.assert_gives(2, worse_at, one=Turns.of("a 1; b 2"), other=Turns.of("a 2; b 1"), hers=hers, his=his)
        self.assert_gives(1, worse_at, one=Turns.of("b 3"), other=Turns.of("a 3"), hers=hers, his=his)
        self.assert_gives(None, worse_at, one=Turns.of("a 3"), other=Turns.of("b 3"), hers=hers, his=his)
        self.assert_gives(None, worse_at, one=Turns(), other=Turns(), hers=(), his=())

    def test_values_and_ways_of_calling(self):
        told = {"one": Turns.of("a 2; b 2"), "other": Turns.of("b 2; a 1; b 1")}
        turned = {"one": told["other"], "other": told["one"]}
        for call, value, back in (
            (never_worse, True, False), (against, None, 1), (most_worse, 0, None), (compare, "better", "worse"),
            (fewest_steps, 5, None),
        ):
            if call is not against:
                self.assert_gives(value, call, **told)
                self.assert_gives(back, call, **turned)
        self.assert_gives(None, against, **told)
        self.assert_gives(against(**turned), against, **turned)
        self.assert_gives(steps(**told), steps, **told)
        self.assert_gives(None, steps, **turned)
        self.assert_gives(True, is_steps, **told, thing=steps(**told))
        self.assert_gives(False, is_steps, **told, thing=list(steps(**told)))
        self.assert_gives(Turns.of("a 1; b 2; a 1"), after, turns=told["other"],
                          steps=(("give", 4), ("swap", 2), ("swap", 1)))

    def test_without_turns(self):
        none = {"one": Turns(), "other": Turns()}
        self.assert_gives(True, never_worse, **none)
        self.assert_gives(None, against, **none)
        self.assert_gives(0, most_worse, **none)
        self.assert_gives("alike", compare, **none)
        self.assert_gives((), steps, **none)
        self.assert_gives(0, fewest_steps, **none)
        self.assert_gives(True, is_steps, **none, thing=())
        for thing in (0, 1, None):
            self.assert_gives(False, is_against, **none, thing=thing)
        self.assert_gives(Turns(), after, turns=Turns(), steps=())

    def test_other_things_ahead_of_all_else(self):
        great = Turns((("a", GREAT),))
        hers = ("oak", "elm", "ash")
        for one, other in ((Turns(), Turns.of("b 1")), (Turns.of("a 3"), Turns.of("a 2")), (Turns.of("a 2"), great),
                           (great, Turns((("b", GREAT - 1),)))):
            for call in (never_worse, against, most_worse, compare, steps, fewest_steps):
                self.assert_refuses(OtherThings, {}, call, one=one, other=other)
            for thing in (None, 1, (), (("swap", 1),), [2], (("give", "x"),)):
                self.assert_refuses(OtherThings, {}, is_against, one=one, other=other, thing=thing)
                self.assert_refuses(OtherThings, {}, is_steps, one=one, other=other, thing=thing)
            self.assert_refuses(OtherThings, {}, worse_at, one=one, other=other, hers=hers, his=hers)
        one, other = Turns.of("a 2; b 1"), Turns.of("b 3")
        for left, right in ((hers, hers[:2]), (hers[:2], hers), (hers[:2], hers[:2]), (hers, ("oak", "elm", "fig")),
                            (hers + ("fig",), hers + ("fig",)), ((), ()), (hers, hers + ("fig",))):
            self.assert_refuses(OtherThings, {}, worse_at, one=one, other=other, hers=left, his=right)


class StepsTest(Calls):
    def test_against_a_search_by_stages(self):
        for size in range(6):
            for other in rows(size):
                found = reached_from(other)
                for one in rows(size):
                    left, right = turns_of(one), turns_of(other)
                    self.assertEqual(fewest_steps(left, right), found.get(one))
                    told = steps(left, right)
                    if one not in found:
                        self.assertIsNone(told)
                        self.assertFalse(never_worse(left, right))
                        continue
                    self.assertTrue(never_worse(left, right))
                    self.assertIs(type(told), tuple)
                    self.assertEqual(len(told), found[one])
                    self.assertIs(is_steps(left, right, told), True)
                    self.assertEqual(after(right, told), left)

    def test_twelve_turns(self):
        one, other = Turns.of("a 6; b 6"), Turns.of("b 12")
        self.assertEqual((len(steps(one, other)), fewest_steps(one, other)), (42, 42))
        one, other = Turns.of("a 6; b 6"), Turns.of("b 6; a 6")
        self.assertEqual((len(steps(one, other)), fewest_steps(one, other)), (36, 36))
        self.assertIs(is_steps(one, other, steps(one, other)), True)

    def test_each_step(self):
        for size in range(6):
            for row in rows(size):
                turns = turns_of(row)
                made = one_step_on(row)
                for word, place in product(("swap", "give"), range(-2, size + 3)):
                    if (word, place) in made:
                        new = turns_of(made[word, place])
                        self.assertEqual(after(turns, ((word, place),)), new)
                        for other in rows(size):
                            self.assertIs(is_steps(turns_of(other), turns, ((word, place),)), turns_of(other) == new)
                    else:
                        self.assert_raises(NoPlace, {"number": place}, after, turns, ((word, place),))
                        self.assertIs(is_steps(turns, turns, ((word, place),)), False)

    def test_the_first_that_is_no_step_there(self):
        turns = Turns.of("b 2; a 2")
        for told, place in (((("swap", 2), ("swap", 2), ("swap", 9)), 2), ((("give", 1), ("swap", 2)), 1),
                            ((("swap", 2), ("give", 2)), 2), ((("swap", 4),), 4), ((("give", 3),), 3),
                            ((("give", 2), ("give", 1), ("give", 0)), 0), ((("give", -GREAT),), -GREAT)):
            self.assert_refuses(NoPlace, {"number": place}, after, turns=turns, steps=told)
        for told in ((("swap", 1),), (("give", 1),), (("swap", 0),)):
            self.assert_refuses(NoPlace, {"number": told[0][1]}, after, turns=Turns(), steps=told)

    def test_more_steps_than_needed(self):
        other, one = Turns.of("b 2; a 1; b 1"), Turns.of("a 4")
        fewest = (("give", 4), ("give", 2), ("give", 1))
        longer = (("swap", 2), ("swap", 1), ("give", 4), ("give", 3), ("give", 2))
        self.assert_gives(True, is_steps, one=one, other=other, thing=fewest)
        self.assert_gives(True, is_steps, one=one, other=other, thing=longer)
        self.assert_gives(False, is_steps, one=one, other=other, thing=longer[:4])
        self.assert_gives(False, is_steps, one=one, other=other, thing=())
        self.assert_gives(3, fewest_steps, one=one, other=other)

    def test_steps_of_every_kind(self):
        one, other = Turns.of("a 1; b 1; a 1"), Turns.of("b 1; a 2")
        self.assert_gives(True, is_steps, one=one, other=other, thing=(("swap", 1),))
        for thing in NO_STEPS:
            self.assert_gives(False, is_steps, one=one, other=other, thing=thing)
            self.assert_gives(False, is_steps, one=Turns.of("b 4"), other=Turns.of("b 4"), thing=thing)

    def test_eighty_steps(self):
        turns = Turns((("b", 9), ("a", 9)))
        told = [("swap", 9 - bob + ann) for bob in range(9) for ann in range(9)][:80]
        self.assertEqual(after(turns, told).runs, (("a", 8), ("b", 1), ("a", 1), ("b", 8)))
        self.assertIs(is_steps(Turns((("a", 9), ("b", 9))), turns, tuple(told) + (("swap", 9),)), True)


class GreatTest(Calls):
    def test_as_small_ones_times_a_factor(self):
        factor = GREAT // 7
        for one, other in pairs(5):
            small = turns_of(one), turns_of(other)
            great = times(small[0], factor), times(small[1], factor)
            self.assertIs(never_worse(*great), never_worse(*small))
            self.assertEqual(compare(*great), compare(*small))
            self.assertEqual(against(*great) is None, against(*small) is None)
            if against(*great) is not None:
                self.assertIs(is_against(*great, against(*great)), True)
            most, many = most_worse(*small), fewest_steps(*small)
            self.assertEqual(most_worse(*great), None if most is None else most * factor)
            if many is None:
                self.assertIsNone(fewest_steps(*great))
            else:
                given = small[0].hers - small[1].hers
                self.assertEqual(fewest_steps(*great), given * factor + (many - given) * factor ** 2)

    def test_by_one_turn(self):
        one = Turns((("a", GREAT), ("b", GREAT), ("a", 1)))
        other = exchanged(one, GREAT)
        self.assertIs(never_worse(one, other), True)
        self.assertIs(never_worse(other, one), False)
        self.assertEqual((against(other, one), is_against(other, one, GREAT)), (GREAT, True))
        self.assertEqual([is_against(other, one, number) for number in (GREAT - 1, GREAT + 1, 1)], [False] * 3)
        self.assertEqual((most_worse(other, one), fewest_steps(one, other), fewest_steps(other, one)), (1, 1, None))
        self.assertIs(is_steps(one, other, (("swap", GREAT),)), True)
        given = handed(one, 2 * GREAT)
        self.assertEqual((fewest_steps(given, one), most_worse(given, one), most_worse(one, given)), (1, 0, None))
        self.assertEqual(against(one, given), GREAT + 1)
        self.assertIs(is_against(one, given, GREAT + 2), True)
        self.assertEqual(after(one, (("give", 2 * GREAT),)), given)
        self.assertIs(is_steps(given, one, (("give", 2 * GREAT), ("swap", GREAT))), False)

    def test_many_runs(self):
        one = Turns([("ab"[at & 1], 10 ** at) for at in range(30)])
        self.assertIs(never_worse(one, swapped(one)), False)
        self.assertEqual(compare(one, one), "alike")
        first = Turns((("a", one.hers), ("b", one.his)))
        last = Turns((("b", one.his), ("a", one.hers)))
        self.assertEqual(compare(first, one), "better")
        self.assertEqual(fewest_steps(first, last), one.hers * one.his)
        self.assertEqual(fewest_steps(first, one) + fewest_steps(one, last), one.hers * one.his)
        self.assertEqual(most_worse(last, first), one.his)


if __name__ == "__main__":
    unittest.main()
