import unittest
from collections import Counter
from fractions import Fraction

from heirturns import chances as chances_file, turns as turns_file
from heirturns.chances import all_chances, chance_of, chance_of_share, expected_places, likeliest_share
from heirturns.errors import NoThing, OtherThings
from heirturns.shares import all_shares
from heirturns.turns import Turns, turns_of
from tests.calls import Calls
from tests.examples import check_examples
from tests.models import GREAT, NAMES, best_first, lists, plain_share, rows_to, subsets

EXAMPLES = r'''
    >>> turns, hers = turns_of(tuple("abab")), tuple("wxyz")
    >>> chance_of_share(turns, hers, ("w", "x")), chance_of_share(turns, hers, ("w", "y")), chance_of_share(turns, hers, ("x", "y")), chance_of_share(turns, hers, ("w",)), all_chances(turns, hers), expected_places(turns, hers), likeliest_share(turns, hers)
    ((2, 3), (1, 3), (0, 1), (0, 1), ((1, 1), (2, 3), (1, 3), (0, 1)), ((1, 1), (7, 3)), ('w', 'x'))
    >>> late = turns_of(tuple("baab"))
    >>> chance_of_share(late, hers, ("w", "x")), chance_of_share(late, hers, ("x", "y")), chance_of(late, hers, "y"), all_chances(late, hers), expected_places(late, hers)
    ((1, 2), (1, 4), (1, 2), ((3, 4), (3, 4), (1, 2), (0, 1)), ((5, 4), (5, 2)))
    >>> chance_of_share(Turns(), (), ()), all_chances(Turns(), ()), expected_places(Turns((("b", 1),)), ("x",)), likeliest_share(Turns((("b", 2),)), ("x", "y")), likeliest_share(turns_of(("b", "a")), ("y", "x"))
    ((1, 1), (), (), (), ('x',))
    >>> chance_of(turns, hers, "q")
    raises NoThing(name='q')
    >>> expected_places(turns, ("x", "y"))
    raises OtherThings()
'''


def pair(value):
    """The fraction as a pair in lowest terms."""
    return Fraction(value).numerator, Fraction(value).denominator


def counted(row, hers):
    """The chance of each share, counted over all lists of his."""
    found = Counter(plain_share(row, hers, his) for his in lists(len(row)))
    return {share: Fraction(many, found.total()) for share, many in found.items()}


def sum_of(pairs):
    return sum(Fraction(top, bottom) for top, bottom in pairs)


def games(most):
    return [(row, turns_of(row), NAMES[:len(row)]) for row in rows_to(most)]


class ChancesTest(Calls):
    def test_examples(self):
        self.assertEqual(check_examples(self, {**vars(turns_file), **vars(chances_file)}, EXAMPLES), 5)

    def test_counted_over_all_lists(self):
        for row, turns, hers in games(5):
            chances = counted(row, hers)
            for share in subsets(hers):
                self.assertEqual(chance_of_share(turns, hers, share), pair(chances.get(share, 0)))
            of_things = [sum(chance for share, chance in chances.items() if name in share) for name in hers]
            self.assertEqual(all_chances(turns, hers), tuple(pair(chance) for chance in of_things))
            for name, chance in zip(hers, of_things):
                self.assertEqual(chance_of(turns, hers, name), pair(chance))
            places = [sum(chance * (hers.index(best_first(hers, share)[at]) + 1) for share, chance in chances.items())
                      for at in range(row.count("a"))]
            self.assertEqual(expected_places(turns, hers), tuple(pair(place) for place in places))
            most = max(chances.values())
            self.assertEqual(likeliest_share(turns, hers), min(own for own in chances if chances[own] == most))

    def test_sums(self):
        for word in ("ab" * 6, "ba" * 6, "abbaabbaabba", "aaaaaabbbbbb", "bbbbbbaaaaaa", "babbbabaaabb", "a" * 12,
                     "b" * 12, "abbabaab", "bbaab"):
            turns, hers = turns_of(word), NAMES[:len(word)]
            told = [chance_of_share(turns, hers, share) for share in all_shares(turns, hers)]
            self.assertEqual(sum_of(told), 1)
            self.assertTrue(all(0 < top <= bottom and pair(Fraction(top, bottom)) == (top, bottom)
                                for top, bottom in told))
            self.assertEqual(sum_of(all_chances(turns, hers)), turns.hers)
            best = likeliest_share(turns, hers)
            self.assertEqual(Fraction(*chance_of_share(turns, hers, best)), max(Fraction(*own) for own in told))
            weights = [Fraction(*chance) * (at + 1) for at, chance in enumerate(all_chances(turns, hers))]
            self.assertEqual(sum_of(expected_places(turns, hers)), sum(weights))

    def test_one_heir_takes_all(self):
        for many in range(6):
            hers = NAMES[:many]
            all_hers = Turns([("a", many)] if many else ())
            self.assertEqual(all_chances(all_hers, hers), ((1, 1),) * many)
            self.assertEqual(expected_places(all_hers, hers), tuple((at + 1, 1) for at in range(many)))
            self.assertEqual(likeliest_share(all_hers, hers), tuple(sorted(hers)))
            all_his = Turns([("b", many)] if many else ())
            self.assertEqual(all_chances(all_his, hers), ((0, 1),) * many)
            self.assertEqual(expected_places(all_his, hers), ())
            self.assertEqual(chance_of_share(all_his, hers, ()), (1, 1))

    def test_of_several_the_least(self):
        # Each thing is left to her as likely: the least name wins, wherever it stands.
        turns = Turns.of("b 3; a 1")
        self.assertEqual(all_chances(turns, ("oak", "yew", "ash", "fig")), ((1, 4),) * 4)
        self.assertEqual(likeliest_share(turns, ("oak", "yew", "ash", "fig")), ("ash",))

    def test_without_things(self):
        none = {"turns": Turns(), "hers": ()}
        self.assert_gives((1, 1), chance_of_share, **none, share=())
        self.assert_gives((), all_chances, **none)
        self.assert_gives((), expected_places, **none)
        self.assert_gives((), likeliest_share, **none)
        self.assert_refuses(NoThing, {"name": "oak"}, chance_of, **none, name="oak")
        self.assert_refuses(NoThing, {"name": "oak"}, chance_of_share, **none, share=("oak", "yew"))

    def test_values_and_ways_of_calling(self):
        told = {"turns": Turns.of("b 1; a 2; b 1"), "hers": ("oak", "fig", "yew", "ash")}
        self.assert_gives((1, 2), chance_of_share, **told, share=("fig", "oak"))
        self.assert_gives((1, 4), chance_of_share, **told, share=("fig", "yew"))
        self.assert_gives((0, 1), chance_of_share, **told, share=("ash", "yew"))
        for share in ((), ("oak",), ("fig", "oak", "yew"), ("ash", "fig", "oak", "yew")):
            self.assert_gives((0, 1), chance_of_share, **told, share=share)
        self.assert_gives((1, 2), chance_of, **told, name="yew")
        self.assert_gives((0, 1), chance_of, **told, name="ash")
        self.assert_gives(((3, 4), (3, 4), (1, 2), (0, 1)), all_chances, **told)
        self.assert_gives(((5, 4), (5, 2)), expected_places, **told)
        self.assert_gives(("fig", "oak"), likeliest_share, **told)

    def test_things_on_no_list(self):
        told = {"turns": Turns.of("b 1; a 1"), "hers": ("oak", "fig")}
        for share, name in ((("yew",), "yew"), (("elm", "yew"), "elm"), (("fig", "rue", "zz"), "rue"),
                            (("ash", "fig", "oak"), "ash")):
            self.assert_refuses(NoThing, {"name": name}, chance_of_share, **told, share=share)
        for name in ("yew", "oa", "a"):
            self.assert_refuses(NoThing, {"name": name}, chance_of, **told, name=name)

    def test_other_things_ahead_of_all_else(self):
        for turns, hers in ((Turns(), ("oak",)), (Turns.of("a 1; b 1"), ()), (Turns.of("a 1; b 1"), ("oak",)),
                            (Turns.of("a 1; b 1"), ("oak", "fig", "yew")), (Turns((("b", GREAT),)), ("oak", "fig"))):
            told = {"turns": turns, "hers": hers}
            for call in (all_chances, expected_places, likeliest_share):
                self.assert_refuses(OtherThings, {}, call, **told)
            for share in ((), ("oak",), ("zz",)):
                self.assert_refuses(OtherThings, {}, chance_of_share, **told, share=share)
            for name in ("oak", "zz"):
                self.assert_refuses(OtherThings, {}, chance_of, **told, name=name)


if __name__ == "__main__":
    unittest.main()
