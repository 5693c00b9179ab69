import unittest
from itertools import product

from heirturns import fair as fair_file, turns as turns_file
from heirturns.errors import NoNumber
from heirturns.fair import (
    behind_at, how_many_within, lag, lead, most_apart, most_gain, never_behind, nth_within, number_of_within,
    place_sums, spread,
)
from heirturns.turns import Turns, heirs, swapped, turns_of
from tests.calls import Calls
from tests.examples import check_examples
from tests.models import GREAT, beginnings, places_of, rows, rows_to, times

EXAMPLES = r'''
    >>> fair, first = Turns.of("a 1; b 2; a 1"), Turns.of("a 2; b 2")
    >>> lead(fair), lag(fair), spread(fair), lead(first), lag(first), spread(first), lead(Turns()), lag(Turns.of("b 7"))
    (1, 1, 1, 2, 0, 2, 0, 7)
    >>> never_behind(fair), behind_at(fair), never_behind(first), behind_at(first), behind_at(Turns.of("a 3; b 9")), behind_at(Turns.of("b 1")), most_gain(first, 10), most_gain(fair, 10), most_gain(first, 0)
    (False, 3, True, None, 7, 1, 20, 10, 0)
    >>> most_apart(fair), most_apart(first), place_sums(fair), place_sums(first), most_apart(Turns.of("a 9")), place_sums(Turns())
    (1, 2, (5, 5), (3, 7), 0, (0, 0))
    >>> how_many_within(4, 1), how_many_within(4, 2), how_many_within(4, 0), how_many_within(0, 0), how_many_within(4, 9), how_many_within(100, 1) == 2 ** 50
    (4, 12, 0, 1, 16, True)
    >>> nth_within(4, 1, 0).text, nth_within(4, 1, 1) == fair, number_of_within(fair, 1), number_of_within(first, 1), number_of_within(first, 2), nth_within(4, 9, 15).text
    ('a 1; b 1; a 1; b 1', True, 1, None, 1, 'b 4')
    >>> great = Turns((("a", 10 ** 29), ("b", 2 * 10 ** 29), ("a", 10 ** 29)))
    >>> lead(great) == 10 ** 29, lag(great) == 10 ** 29, behind_at(great) == 2 * 10 ** 29 + 1, most_apart(great) == 10 ** 29, place_sums(great)[0] == place_sums(great)[1]
    (True, True, True, True, True)
    >>> nth_within(4, 1, 4)
    raises NoNumber(number=4)
'''


def leads(row):
    """By how many turns hers are more than his, beginning by beginning."""
    return [2 * hers - end for end, hers in enumerate(beginnings(row))]


def falling(size, top):
    """All prices of so many things, of at most top, that never rise."""
    return [told for told in product(range(top + 1), repeat=size) if all(one >= two for one, two in zip(told, told[1:]))]


def gain(row, prices):
    """By how much her share is worth more than his."""
    return sum(price if heir == "a" else -price for heir, price in zip(row, prices))


class FairTest(Calls):
    def test_examples(self):
        self.assertEqual(check_examples(self, {**vars(turns_file), **vars(fair_file)}, EXAMPLES), 7)

    def test_turn_by_turn(self):
        for row in rows_to(8):
            turns, told = turns_of(row), leads(row)
            self.assertEqual(lead(turns), max(told))
            self.assertEqual(lag(turns), -min(told))
            self.assertEqual(spread(turns), max(max(told), -min(told)))
            self.assertIs(never_behind(turns), min(told) >= 0)
            behind = [number for number, many in enumerate(told) if many < 0]
            self.assertEqual(behind_at(turns), behind[0] if behind else None)
            hers, his = places_of(row, "a"), places_of(row, "b")
            self.assertEqual(most_apart(turns), max([0] + [abs(one - other) for one, other in zip(hers, his)]))
            self.assertEqual(place_sums(turns), (sum(hers), sum(his)))
            for top in (0, 1, 7, GREAT):
                self.assertEqual(most_gain(turns, top), top * max(told))

    def test_for_all_prices(self):
        for row in rows_to(5):
            turns = turns_of(row)
            for top in (1, 2):
                told = [gain(row, prices) for prices in falling(len(row), top)]
                self.assertEqual(most_gain(turns, top), max(told))
                self.assertIs(never_behind(turns), min(told) >= 0)
                self.assertEqual(top * lag(turns), -min(told))
            if behind_at(turns) is not None:
                prices = [1] * behind_at(turns) + [0] * len(row)
                self.assertLess(gain(row, prices), 0)

    def test_without_turns(self):
        told = {"turns": Turns()}
        for call in (lead, lag, spread, most_apart):
            self.assert_gives(0, call, **told)
        self.assert_gives(True, never_behind, **told)
        self.assert_gives(None, behind_at, **told)
        self.assert_gives(0, most_gain, **told, top=GREAT)
        self.assert_gives((0, 0), place_sums, **told)
        for most in (0, 1, GREAT):
            self.assert_gives(1, how_many_within, size=0, most=most)
            self.assert_gives(Turns(), nth_within, size=0, most=most, number=0)
            self.assert_gives(0, number_of_within, **told, most=most)
            for number in (-1, 1):
                self.assert_refuses(NoNumber, {"number": number}, nth_within, size=0, most=most, number=number)

    def test_values_and_ways_of_calling(self):
        told = {"turns": Turns.of("a 1; b 3; a 1")}
        self.assert_gives(1, lead, **told)
        self.assert_gives(2, lag, **told)
        self.assert_gives(2, spread, **told)
        self.assert_gives(3, lead, turns=Turns.of("a 3; b 1"))
        self.assert_gives(3, spread, turns=Turns.of("a 3; b 1"))
        self.assert_gives(False, never_behind, **told)
        self.assert_gives(3, behind_at, **told)
        self.assert_gives(5, most_gain, **told, top=5)
        self.assert_gives(2, most_apart, **told)
        self.assert_gives((6, 9), place_sums, **told)
        self.assert_gives(6, how_many_within, size=3, most=2)
        self.assert_gives(Turns.of("a 2; b 1"), nth_within, size=3, most=2, number=0)
        self.assert_gives(1, number_of_within, turns=Turns.of("a 1; b 1; a 1"), most=2)
        self.assert_gives(None, number_of_within, turns=Turns.of("a 3"), most=2)

    def test_great_numbers(self):
        self.assertEqual((lead(Turns((("b", GREAT), ("a", 3 * GREAT)))), lag(Turns((("b", GREAT), ("a", 1))))),
                         (2 * GREAT, GREAT))
        turns = Turns((("a", GREAT), ("b", GREAT), ("a", 1), ("b", 2)))
        self.assertEqual((lead(turns), lag(turns), behind_at(turns)), (GREAT, 1, 2 * GREAT + 3))
        self.assertEqual(most_gain(turns, GREAT), GREAT ** 2)
        self.assertEqual((most_apart(turns), most_apart(swapped(turns))), (GREAT, GREAT))
        self.assertEqual(sum(place_sums(turns)), (2 * GREAT + 3) * (2 * GREAT + 4) // 2)
        self.assertEqual(place_sums(Turns((("a", GREAT), ("b", 1), ("a", 1)))),
                         (GREAT * (GREAT + 1) // 2 + GREAT + 2, GREAT + 1))

    def test_as_small_ones_times_a_factor(self):
        factor = GREAT // 9
        for row in rows_to(7):
            small = turns_of(row)
            great = times(small, factor)
            for call in (lead, lag, spread, most_apart):
                self.assertEqual(call(great), factor * call(small))
            self.assertIs(never_behind(great), never_behind(small))
            found = behind_at(small)
            self.assertEqual(behind_at(great), None if found is None else (found - 1) * factor + 1)
            # The places of one turn, times the factor, are in all half a turn less for each.
            more = (factor ** 2 - factor) // 2
            self.assertEqual(place_sums(great), tuple(
                factor ** 2 * many - more * own for many, own in zip(place_sums(small), (small.hers, small.his))))

    def test_many_runs(self):
        turns = Turns([("ab"[at & 1], 10 ** at) for at in range(30)])
        more, told = 0, [0]
        for heir, many in turns.runs:
            more += many if heir == "a" else -many
            told.append(more)
        self.assertEqual((lead(turns), lag(turns)), (max(told), -min(told)))
        self.assertEqual(behind_at(turns), 3)
        self.assertEqual(sum(place_sums(turns)), turns.size * (turns.size + 1) // 2)


class WithinTest(Calls):
    def test_against_all_rows(self):
        for size in range(8):
            for most in range(10):
                own = [row for row in rows(size) if all(-most <= many <= most for many in leads(row))]
                self.assertEqual(how_many_within(size, most), len(own))
                self.assertEqual([heirs(nth_within(size, most, number)) for number in range(len(own))], own)
                for row in rows(size):
                    number = own.index(row) if row in own else None
                    self.assertEqual(number_of_within(turns_of(row), most), number)
                for number in (-GREAT, -2, -1, len(own), len(own) + 1, GREAT):
                    self.assert_raises(NoNumber, {"number": number}, nth_within, size, most, number)

    def test_a_hundred_turns(self):
        self.assertEqual([how_many_within(100, most) for most in (0, 1, 100, 101, GREAT)],
                         [0, 2 ** 50, 2 ** 100, 2 ** 100, 2 ** 100])
        self.assertEqual(how_many_within(100, 99), 2 ** 100 - 2)
        self.assertEqual(how_many_within(100, 2), 4 * 3 ** 49)
        for most, number in ((1, 2 ** 49), (2, 3 ** 45), (7, 10 ** 20), (100, 2 ** 100 - 1), (GREAT, 2 ** 99 + 1)):
            turns = nth_within(100, most, number)
            self.assertEqual(turns.size, 100)
            self.assertLessEqual(spread(turns), most)
            self.assertEqual(number_of_within(turns, most), number)
        self.assertEqual(nth_within(100, 50, 0).runs[0], ("a", 50))
        self.assertEqual(number_of_within(Turns.of("b 100"), 100), 2 ** 100 - 1)
        self.assertIsNone(number_of_within(Turns.of("b 100"), 99))
        self.assert_raises(NoNumber, {"number": 0}, nth_within, 100, 0, 0)


if __name__ == "__main__":
    unittest.main()
