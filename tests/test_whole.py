"""What the document says over the whole program: what several files tell of the same Turns and lists."""

import unittest

from heirturns.best import best_share
from heirturns.board import Board
from heirturns.chances import all_chances, chance_of_share
from heirturns.changes import Watch
from heirturns.desk import answers
from heirturns.hidden import Hidden, looks_of
from heirturns.known import played_shares
from heirturns.lattice import next_above, next_below
from heirturns.lead import compare, never_worse, worse_at
from heirturns.many import can_come_among, can_take_among, picked
from heirturns.picks import places_on, shares, story, taken
from heirturns.prices import least_come, most_come, most_taken, never_worth_less, worth
from heirturns.ranks import Table
from heirturns.shares import all_shares, can_come, possible_things, sure_things
from heirturns.takes import all_takes, can_take
from heirturns.turns import Turns, turns_of
from tests.calls import Calls, listed
from tests.models import NAMES, lists, rows, rows_to, subsets


def games(most):
    """All rows to so many turns, with all lists of his and one of hers."""
    return [(row, turns_of(row), NAMES[:len(row)], his) for row in rows_to(most) for his in lists(len(row))]


class OverviewTest(Calls):
    def test_never_worse_for_all_lists(self):
        """(a), (e): by all lists, by the beginnings, on a Table, on a Board and at a desk."""
        words = ["".join(row) for row in rows(3)]
        table = Table([(word, turns_of(word)) for word in words])
        board = Board()
        for word in words:
            board.put(word, turns_of(word))
        for one in words:
            for other in words:
                worse = any(worse_at(turns_of(one), turns_of(other), hers, his) for hers in lists(3) for his in lists(3))
                self.assertIs(never_worse(turns_of(one), turns_of(other)), not worse)
                self.assertIs(table.is_never_worse(one, other), not worse)
                self.assertIs(board.never_worse(one, other), not worse)
                self.assertIs(one in table.above(other), compare(turns_of(one), turns_of(other)) == "better")
                lines = [f"turns one {turns_of(one).text}", f"turns other {turns_of(other).text}", "never one other"]
                self.assertEqual(answers("\n".join(lines))[-1], "no" if worse else "yes")
        self.assertEqual(board.best_for_her(3), ("aaa",))
        self.assertEqual(table.layers()[0], ("aaa",))

    def test_shares_that_can_come_about(self):
        """(b): among two heirs and several, by chance, at plain taking; what is sure and what is possible."""
        for row in rows_to(4):
            turns, hers = turns_of(row), NAMES[:len(row)]
            for share in subsets(hers):
                comes = can_come(turns, hers, share)
                self.assertIs(comes, share in {shares(turns, hers, his)[0] for his in lists(len(row))})
                self.assertIs(comes, chance_of_share(turns, hers, share) != (0, 1))
                self.assertIs(comes, can_come_among(row, hers, "a", share))
            for name, chance in zip(hers, all_chances(turns, hers)):
                self.assertIs(name in sure_things(turns, hers), chance == (1, 1))
                self.assertIs(name in possible_things(turns, hers), chance != (0, 1))

    def test_shares_that_can_be_taken(self):
        """(c): one is best by all prices that keep her list; good play of both comes to none that is better."""
        for row, turns, hers, his in games(4):
            best = best_share(turns, hers, his)
            for share in all_takes(turns, his):
                self.assertIs(never_worth_less(hers, best, share), True)
                self.assertIs(can_take_among(row, (("a", hers), ("b", his)), "a", share), True)
            self.assertIs(can_take(turns, his, played_shares(turns, hers, his)[0]), True)
            prices = tuple(sorted((name, 10 - at * at // 2) for at, name in enumerate(hers)))
            self.assertEqual(most_taken(turns, his, prices), worth(prices, best))
            plain = worth(prices, shares(turns, hers, his)[0])
            self.assertLessEqual(least_come(turns, hers, prices), plain)
            self.assertLessEqual(plain, most_come(turns, hers, prices))
            self.assertLessEqual(plain, worth(prices, best))

    def test_hidden_lists(self):
        """(d): the list by which he takes fits what he took, and all that fit give the same share."""
        for row, turns, hers, his in games(4):
            names = taken(turns, hers, his)
            hidden = Hidden(tuple(sorted(hers)))
            for look in looks_of(turns, tuple(sorted(hers)), names):
                hidden.tell(*look)
            self.assertIs(hidden.fits(his), True)
            for number in range(hidden.how_many()):
                self.assertEqual(taken(turns, hers, hidden.nth_list(number)), names)

    def test_the_same_shares_everywhere(self):
        for row, turns, hers, his in games(3):
            both = shares(turns, hers, his)
            board = Board()
            board.put("fig", turns)
            board.like("a", hers)
            board.like("b", his)
            self.assertEqual(board.shares("fig"), both)
            self.assertEqual(Watch(turns, hers, his).share, both[0])
            self.assertEqual(picked(row, (("a", hers), ("b", his))), taken(turns, hers, his))
            self.assertEqual(len(places_on(hers, both[0])), turns.hers)


class ListsTest(Calls):
    def test_lists_that_are_told_are_new(self):
        """Changed by the caller, they change no later answer."""
        turns, hers, his = Turns.of("a 1; b 2; a 1"), ("fig", "ash", "elm", "oak"), ("oak", "fig", "ash", "elm")
        table = Table((("one", turns), ("other", Turns.of("b 1; a 2; b 1"))))
        for call, told in (
            (story, (turns, hers, his)), (all_shares, (turns, hers)), (all_takes, (turns, his)),
            (next_above, (turns,)), (next_below, (turns,)), (table.layers, ()), (answers, ("names\nundo",)),
        ):
            found = call(*told)
            kept = listed(found)
            self.assertIs(type(found), list)
            found.reverse()
            found.append(None)
            found[0] = "changed"
            self.assertEqual(listed(call(*told)), kept)
            self.assertEqual(listed(call(*listed(told))), kept)


if __name__ == "__main__":
    unittest.main()
