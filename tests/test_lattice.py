import unittest
from itertools import product
from math import comb

from heirturns import lattice as lattice_file, turns as turns_file
from heirturns.errors import NoNumber, OtherThings
from heirturns.lattice import (
    above_both, below_both, best_turns, height, how_many_between, how_many_turns, is_above, is_between, next_above,
    next_below, nth_between, number_of_between, worst_turns,
)
from heirturns.turns import Turns, ahead, heirs, swapped, turns_of
from tests.calls import Calls
from tests.examples import check_examples
from tests.models import GREAT, NAMES, beginnings, is_row_above, is_worse, lists, plain_share, rows, rows_to, times

EXAMPLES = r'''
    >>> one, other = Turns.of("a 1; b 2; a 1"), Turns.of("b 1; a 2; b 1")
    >>> is_above(one, other), is_above(Turns.of("a 2; b 2"), one), above_both(one, other).text, below_both(one, other).text, height(one), height(other)
    (False, True, 'a 1; b 1; a 1; b 1', 'b 1; a 1; b 1; a 1', 5, 5)
    >>> [own.text for own in next_above(one)], [own.text for own in next_below(one)], [own.text for own in next_above(other)]
    (['a 1; b 1; a 1; b 1'], ['a 1; b 3', 'b 1; a 1; b 1; a 1'], ['a 1; b 1; a 1; b 1', 'b 1; a 3'])
    >>> best_turns(2, 1).text, worst_turns(2, 1).text, best_turns(0, 0).text, how_many_turns(2, 2), how_many_turns(60, 60)
    ('a 2; b 1', 'b 1; a 2', '-', 6, 96614908840363322603893139521372656)
    >>> best, worst = best_turns(2, 2), worst_turns(2, 2)
    >>> how_many_between(best, worst), [nth_between(best, worst, number).text for number in range(6)], number_of_between(best, worst, one), is_between(best, worst, other)
    (6, ['a 2; b 2', 'a 1; b 1; a 1; b 1', 'a 1; b 2; a 1', 'b 1; a 2; b 1', 'b 1; a 1; b 1; a 1', 'b 2; a 2'], 2, True)
    >>> how_many_between(one, other), number_of_between(one, worst, other), how_many_between(Turns.of("a 2"), Turns.of("b 2"))
    (0, None, 4)
    >>> nth_between(best, worst, 6)
    raises NoNumber(number=6)
    >>> above_both(one, Turns.of("a 3"))
    raises OtherThings()
'''

UNLIKE = (
    (Turns(), Turns.of("a 1")), (Turns.of("a 3"), Turns.of("a 2")), (Turns.of("a 2"), Turns((("a", GREAT),))),
    (Turns((("a", GREAT),)), Turns((("b", GREAT + 1),))),
)


def pairs(size):
    """All pairs of rows of so many turns."""
    return list(product(rows(size), repeat=2))


def told_of(turns):
    return [heirs(own) for own in turns]


class AboveTest(Calls):
    def test_examples(self):
        self.assertEqual(check_examples(self, {**vars(turns_file), **vars(lattice_file)}, EXAMPLES), 7)

    def test_above_and_between(self):
        for size in range(5):
            for one, other in pairs(size):
                left, right = turns_of(one), turns_of(other)
                self.assertIs(is_above(left, right), is_row_above(one, other))
                for third in rows(size)[::1 + size // 3]:
                    between = is_row_above(one, third) and is_row_above(third, other)
                    self.assertIs(is_between(left, right, turns_of(third)), between)

    def test_above_is_never_worse_for_all_lists(self):
        for one, other in pairs(3):
            worse = any(is_worse(hers, plain_share(one, hers, his), plain_share(other, hers, his))
                        for hers in lists(3) for his in lists(3))
            self.assertIs(is_above(turns_of(one), turns_of(other)), not worse)

    def test_bounds_of_both_against_all_rows(self):
        for size in range(6):
            for one, other in pairs(size):
                left, right = turns_of(one), turns_of(other)
                upper, lower = above_both(left, right), below_both(left, right)
                above = [row for row in rows(size) if is_row_above(row, one) and is_row_above(row, other)]
                below = [row for row in rows(size) if is_row_above(one, row) and is_row_above(other, row)]
                self.assertIn(heirs(upper), above)
                self.assertIn(heirs(lower), below)
                self.assertTrue(all(is_row_above(row, heirs(upper)) for row in above))
                self.assertTrue(all(is_row_above(heirs(lower), row) for row in below))
                told = list(zip(beginnings(one), beginnings(other)))
                self.assertEqual(beginnings(heirs(upper)), [max(both) for both in told])
                self.assertEqual(beginnings(heirs(lower)), [min(both) for both in told])

    def test_height(self):
        for row in rows_to(7):
            self.assertEqual(height(turns_of(row)), sum(beginnings(row)))

    def test_values_and_ways_of_calling(self):
        told = {"one": Turns.of("b 1; a 3"), "other": Turns.of("a 1; b 2; a 1")}
        self.assert_gives(False, is_above, **told)
        self.assert_gives(True, is_above, one=Turns.of("a 4"), other=told["other"])
        self.assert_gives(Turns.of("a 1; b 1; a 2"), above_both, **told)
        self.assert_gives(Turns.of("b 1; a 1; b 1; a 1"), below_both, **told)
        self.assert_gives(True, is_between, one=Turns.of("a 4"), other=Turns.of("b 4"), third=told["one"])
        self.assert_gives(False, is_between, **told, third=Turns.of("a 4"))
        self.assert_gives(6, height, turns=told["one"])
        self.assert_gives([Turns.of("a 1; b 1; a 2")], next_above, turns=told["one"])
        self.assert_gives([Turns.of("b 1; a 2; b 1")], next_below, turns=told["one"])
        self.assert_gives([Turns.of("a 1; b 1; a 1; b 1"), Turns.of("b 1; a 3")], next_above,
                          turns=Turns.of("b 1; a 2; b 1"))
        self.assert_gives([Turns.of("a 1; b 3"), Turns.of("b 1; a 1; b 1; a 1")], next_below, turns=told["other"])
        self.assert_gives(Turns.of("a 2; b 3"), best_turns, hers=2, his=3)
        self.assert_gives(Turns.of("b 3; a 2"), worst_turns, hers=2, his=3)
        self.assert_gives(10, how_many_turns, hers=2, his=3)
        wide = {"one": Turns.of("a 4"), "other": Turns.of("b 4")}
        self.assert_gives(16, how_many_between, **wide)
        self.assert_gives(Turns.of("a 3; b 1"), nth_between, **wide, number=1)
        self.assert_gives(1, number_of_between, **wide, third=Turns.of("a 3; b 1"))
        self.assert_gives(None, number_of_between, one=Turns.of("a 3; b 1"), other=wide["other"], third=wide["one"])

    def test_without_turns(self):
        none = {"one": Turns(), "other": Turns()}
        self.assert_gives(True, is_above, **none)
        self.assert_gives(True, is_between, **none, third=Turns())
        self.assert_gives(Turns(), above_both, **none)
        self.assert_gives(Turns(), below_both, **none)
        self.assert_gives(0, height, turns=Turns())
        self.assert_gives([], next_above, turns=Turns())
        self.assert_gives([], next_below, turns=Turns())
        self.assert_gives(Turns(), best_turns, hers=0, his=0)
        self.assert_gives(Turns(), worst_turns, hers=0, his=0)
        self.assert_gives(1, how_many_turns, hers=0, his=0)
        self.assert_gives(1, how_many_between, **none)
        self.assert_gives(Turns(), nth_between, **none, number=0)
        self.assert_gives(0, number_of_between, **none, third=Turns())
        for number in (-1, 1):
            self.assert_refuses(NoNumber, {"number": number}, nth_between, **none, number=number)

    def test_other_things_ahead_of_all_else(self):
        for one, other in UNLIKE:
            for call in (is_above, above_both, below_both, how_many_between):
                self.assert_refuses(OtherThings, {}, call, one=one, other=other)
                self.assert_refuses(OtherThings, {}, call, one=other, other=one)
            for number in (-1, 0, GREAT):
                self.assert_refuses(OtherThings, {}, nth_between, one=one, other=other, number=number)
            for third in (one, other):
                self.assert_refuses(OtherThings, {}, is_between, one=one, other=other, third=third)
                self.assert_refuses(OtherThings, {}, number_of_between, one=one, other=other, third=third)
            self.assert_refuses(OtherThings, {}, is_between, one=one, other=one, third=other)
        for one, other, third in (("a 3", "b 3", "a 2"), ("b 3", "a 3", "b 4"), ("a 1; b 1", "a 1; b 1", "-"),
                                  ("b 1", "b 2", "a 1"), ("b 1", "b 2", "b 1"), ("a 2", "b 1", "b 1")):
            told = {"one": Turns.of(one), "other": Turns.of(other), "third": Turns.of(third)}
            self.assert_refuses(OtherThings, {}, is_between, **told)
            self.assert_refuses(OtherThings, {}, number_of_between, **told)


class NextTest(Calls):
    def test_against_all_rows(self):
        for size in range(6):
            for row in rows(size):
                turns = turns_of(row)
                above = [own for own in rows(size) if own != row and is_row_above(own, row)]
                below = [own for own in rows(size) if own != row and is_row_above(row, own)]
                near = [own for own in above if not any(is_row_above(own, mid) for mid in above if mid != own)]
                self.assertEqual(told_of(next_above(turns)), near)
                self.assertEqual([height(own) for own in next_above(turns)], [height(turns) + 1] * len(near))
                near = [own for own in below if not any(is_row_above(mid, own) for mid in below if mid != own)]
                self.assertEqual(told_of(next_below(turns)), near)
                self.assertEqual([height(own) for own in next_below(turns)], [height(turns) - 1] * len(near))

    def test_forty_turns(self):
        turns = turns_of(tuple("ba" * 20))
        self.assertEqual(len(next_above(turns)), 20)
        self.assertEqual(len(next_below(turns)), 20)
        self.assertEqual(told_of(next_above(turns)), sorted(told_of(next_above(turns))))
        self.assertEqual(told_of(next_below(turns)), sorted(told_of(next_below(turns))))
        for own in next_above(turns):
            self.assertIn(turns, next_below(own))


class CountsTest(Calls):
    def test_best_and_worst_turns(self):
        for hers, his in product(range(5), repeat=2):
            own = [row for row in rows(hers + his) if row.count("a") == hers]
            self.assertEqual(how_many_turns(hers, his), len(own))
            self.assertEqual(heirs(best_turns(hers, his)), own[0])
            self.assertEqual(heirs(worst_turns(hers, his)), own[-1])
            self.assertEqual(how_many_between(best_turns(hers, his), worst_turns(hers, his)), len(own))
        self.assertEqual(best_turns(GREAT, 1).runs, (("a", GREAT), ("b", 1)))
        self.assertEqual(worst_turns(GREAT, 1).runs, (("b", 1), ("a", GREAT)))
        self.assertEqual(best_turns(0, GREAT), worst_turns(0, GREAT))
        self.assertEqual((how_many_turns(60, 0), how_many_turns(0, 60), how_many_turns(60, 60)), (1, 1, comb(120, 60)))

    def test_between_against_all_rows(self):
        for size in range(5):
            for one, other in pairs(size):
                left, right = turns_of(one), turns_of(other)
                between = [row for row in rows(size) if is_row_above(one, row) and is_row_above(row, other)]
                many = how_many_between(left, right)
                self.assertEqual(many, len(between))
                self.assertEqual(told_of([nth_between(left, right, number) for number in range(many)]), between)
                for row in rows(size):
                    number = between.index(row) if row in between else None
                    self.assertEqual(number_of_between(left, right, turns_of(row)), number)
                for number in (-GREAT, -2, -1, many, many + 1, GREAT):
                    self.assert_raises(NoNumber, {"number": number}, nth_between, left, right, number)

    def test_forty_turns(self):
        best, worst = Turns.of("a 40"), Turns.of("b 40")
        self.assertEqual(how_many_between(best, worst), 2 ** 40)
        self.assertEqual(nth_between(best, worst, 0), best)
        self.assertEqual(nth_between(best, worst, 2 ** 40 - 1), worst)
        for number in (1, 12345678901, 2 ** 39, 2 ** 39 - 1, 3 ** 25):
            turns = nth_between(best, worst, number)
            told = "".join("01"[heir == "b"] for heir in heirs(turns))
            self.assertEqual((int(told, 2), number_of_between(best, worst, turns)), (number, number))
        best, worst = best_turns(20, 20), worst_turns(20, 20)
        self.assertEqual(how_many_between(best, worst), comb(40, 20))
        for number in (0, 1, 77777777777, comb(40, 20) - 1):
            turns = nth_between(best, worst, number)
            self.assertIs(is_between(best, worst, turns), True)
            self.assertEqual(number_of_between(best, worst, turns), number)


class GreatTest(Calls):
    def test_as_small_ones_times_a_factor(self):
        factor = 2 * GREAT // 14
        for one, other in pairs(5):
            small = turns_of(one), turns_of(other)
            great = times(small[0], factor), times(small[1], factor)
            self.assertIs(is_above(*great), is_above(*small))
            self.assertIs(is_between(*great, great[0]), is_between(*small, small[0]))
            self.assertEqual(above_both(*great), times(above_both(*small), factor))
            self.assertEqual(below_both(*great), times(below_both(*small), factor))
            # Of each turn of hers, times the factor, half the beginnings come in but for half a turn.
            more = (factor ** 2 - factor) // 2 * small[0].hers
            self.assertEqual(height(great[0]), factor ** 2 * height(small[0]) - more)

    def test_crossings_within_runs(self):
        one, other = Turns((("a", GREAT), ("b", 3 * GREAT))), Turns((("b", GREAT + 1), ("a", 3 * GREAT - 1)))
        upper, lower = above_both(one, other), below_both(one, other)
        self.assertEqual(upper.runs, (("a", GREAT), ("b", GREAT + 1), ("a", 2 * GREAT - 1)))
        self.assertEqual(lower.runs, (("b", GREAT + 1), ("a", GREAT), ("b", 2 * GREAT - 1)))
        for number in (0, 1, GREAT, GREAT + 1, 2 * GREAT, 2 * GREAT + 1, 2 * GREAT + 2, 4 * GREAT):
            both = ahead(one, number), ahead(other, number)
            self.assertEqual((ahead(upper, number), ahead(lower, number)), (max(both), min(both)))

    def test_many_runs(self):
        one = Turns([("ab"[at & 1], 10 ** (at % 7) + at) for at in range(30)])
        other = Turns(swapped(one).runs[::-1])
        upper, lower = above_both(one, other), below_both(one, other)
        numbers = sorted({near for end in one.ends + other.ends + upper.ends + lower.ends
                          for near in (end - 1, end, end + 1)})
        for number in numbers:
            both = ahead(one, number), ahead(other, number)
            self.assertEqual((ahead(upper, number), ahead(lower, number)), (max(both), min(both)))
        self.assertEqual((upper.size, lower.size), (one.size, one.size))
        self.assertEqual(height(upper) + height(lower), height(one) + height(other))

    def test_heights_of_great_turns(self):
        self.assertEqual(height(Turns((("a", GREAT),))), GREAT * (GREAT + 1) // 2)
        self.assertEqual(height(Turns((("b", GREAT), ("a", 1), ("b", GREAT)))), GREAT + 1)
        self.assertEqual(height(Turns((("b", GREAT),))), 0)


if __name__ == "__main__":
    unittest.main()
