import random
import unittest

from heirturns import ranks as ranks_file, turns as turns_file
from heirturns.errors import Known, NoTurns, OtherThings
from heirturns.ranks import Table
from heirturns.turns import Turns, turns_of
from tests.calls import Calls, listed
from tests.examples import check_examples
from tests.models import GREAT, beginnings, is_row_above, subsets, times

EXAMPLES = r'''
    >>> table = Table((("c", Turns.of("b 1; a 2; b 1")), ("a", Turns.of("a 1; b 2; a 1")), ("b", Turns.of("a 2; b 2")), ("d", Turns.of("a 1; b 2; a 1")), ("e", Turns.of("b 2; a 2"))))
    >>> table.names, len(table), "c" in table, "x" in table, table["e"].text, table.is_never_worse("a", "d"), table.is_never_worse("a", "c")
    (('a', 'b', 'c', 'd', 'e'), 5, True, False, 'b 2; a 2', True, False)
    >>> table.all_pairs()
    (('a', 'e'), ('b', 'a'), ('b', 'c'), ('b', 'd'), ('b', 'e'), ('c', 'e'), ('d', 'e'))
    >>> table.below("b"), table.above("e"), table.next_below("b"), table.next_above("e"), table.below("e"), table.ties()
    (('a', 'c', 'd', 'e'), ('a', 'b', 'c', 'd'), ('a', 'c', 'd'), ('a', 'c', 'd'), (), (('a', 'd'),))
    >>> table.chain(), table.apart(), table.layers(), Table(()).chain(), Table(()).layers()
    (('b', 'a', 'e'), ('a', 'c'), [('b',), ('a', 'c', 'd'), ('e',)], (), [])
    >>> table.bound_above(("a", "c")).text, table.bound_below(("a", "c", "d")).text, table.bound_above(("e",)).text
    ('a 1; b 1; a 1; b 1', 'b 1; a 1; b 1; a 1', 'b 2; a 2')
    >>> Table((("a", table["a"]), ("b", Turns())))
    raises OtherThings()
    >>> table.above("x")
    raises NoTurns(name='x')
'''

ONE_NAME = ("below", "above", "next_below", "next_above")


def tables(rng, times_tried):
    """Rows of heirs by name, by chance, ties among them."""
    found = []
    for turn in range(times_tried):
        size, many = rng.randint(0, 6), rng.randint(0, 6)
        some = [tuple(rng.choice("ab") for at in range(size)) for own in range(max(many - 1, 1))]
        names = rng.sample(("fig", "ash", "elm", "a", "b", "oak", "yew", "abcdefgh"), many)
        found.append({name: rng.choice(some) for name in names})
    return found


def table_of(rows):
    return Table([(name, turns_of(row)) for name, row in rows.items()])


def pairs_of(rows):
    """The pairs of names of which the first one stands above the second one."""
    return sorted((one, other) for one in rows for other in rows
                  if rows[one] != rows[other] and is_row_above(rows[one], rows[other]))


def longest(found):
    """The least of the longest ones."""
    most = max(len(own) for own in found)
    return min(own for own in found if len(own) == most)


def chains(pairs, names):
    """All tuples of names, each above the next one."""
    found = [()] + [(name,) for name in names]
    for own in found:
        found += [own + (other,) for other in names if own and (own[-1], other) in pairs]
    return found


def bound(row_sets, join):
    """The row whose beginnings have the greatest (least) of the numbers of all of these."""
    numbers = [join(told) for told in zip(*[beginnings(row) for row in row_sets])]
    return tuple("a" if more > less else "b" for less, more in zip(numbers, numbers[1:]))


def told(table):
    """All that a Table tells without being asked of a name."""
    return (table.names, len(table), table.all_pairs(), table.ties(), table.chain(), table.apart(), table.layers(),
            [table[name].runs for name in table.names])


class TableTest(Calls):
    def test_examples(self):
        self.assertEqual(check_examples(self, {**vars(turns_file), **vars(ranks_file)}, EXAMPLES), 7)

    def test_against_trying_out(self):
        for rows in tables(random.Random(1), 120):
            table, pairs, names = table_of(rows), pairs_of(rows), tuple(sorted(rows))
            self.assertEqual((table.names, len(table), table.all_pairs()), (names, len(rows), tuple(pairs)))
            for name in names:
                self.assertEqual(table[name], turns_of(rows[name]))
                self.assertIs(name in table, True)
                for other in names:
                    self.assertIs(table.is_never_worse(name, other), is_row_above(rows[name], rows[other]))
                self.check_name(table, name, names, pairs)
            groups = [tuple(sorted(own for own in rows if rows[own] == row)) for row in set(rows.values())]
            self.assertEqual(table.ties(), tuple(sorted(own for own in groups if len(own) > 1)))
            self.check_sets(table, rows, pairs, names)

    def check_name(self, table, name, names, pairs):
        below = tuple(own for own in names if (name, own) in pairs)
        above = tuple(own for own in names if (own, name) in pairs)
        self.assertEqual((table.below(name), table.above(name)), (below, above))
        self.assertEqual(table.next_below(name),
                         tuple(own for own in below if not any((other, own) in pairs for other in below)))
        self.assertEqual(table.next_above(name),
                         tuple(own for own in above if not any((own, other) in pairs for other in above)))

    def check_sets(self, table, rows, pairs, names):
        self.assertEqual(table.chain(), longest(chains(pairs, names)))
        free = [share for share in subsets(names)
                if not any((one, other) in pairs or (one != other and rows[one] == rows[other])
                           for one in share for other in share)]
        self.assertEqual(table.apart(), longest(free))
        layers, left = [], set(names)
        while left:
            layers.append(tuple(sorted(own for own in left if not any((other, own) in pairs for other in left))))
            left -= set(layers[-1])
        self.assertEqual(table.layers(), layers)
        self.assertEqual(len(layers), len(table.chain()))

    def test_more_names(self):
        rng = random.Random(4)
        for turn in range(40):
            words = rng.sample(["aabb", "abab", "abba", "baab", "baba", "bbaa", "aaab", "abbb", "bbab", "babb"], 8)
            rows = dict(zip(rng.sample("abcdefghijkl", 8), [tuple(word) for word in words]))
            self.check_sets(table_of(rows), rows, pairs_of(rows), tuple(sorted(rows)))

    def test_bounds(self):
        for rows in tables(random.Random(2), 60):
            table = table_of(rows)
            for share in subsets(rows)[1:]:
                above, below = turns_of(bound([rows[own] for own in share], max)), None
                self.assertEqual(table.bound_above(share), above)
                below = turns_of(bound([rows[own] for own in share], min))
                self.assertEqual(table.bound_below(share), below)

    def test_great_numbers(self):
        for rows in tables(random.Random(3), 20):
            great = Table([(name, times(turns_of(row), 10 ** 29)) for name, row in rows.items()])
            small = table_of(rows)
            self.assertEqual(told(great)[:-1], told(small)[:-1])
            for name in rows:
                self.assertEqual(great[name], times(small[name], 10 ** 29))

    def test_twelve_names(self):
        names = "abcdefghijkl"
        line = Table([(names[at], turns_of("b" * at + "a" + "b" * (11 - at))) for at in range(12)][::-1])
        self.assertEqual((line.chain(), line.apart()), (tuple(names), ("a",)))
        self.assertEqual(line.layers(), [(name,) for name in names])
        self.assertEqual((line.next_below("d"), line.next_above("d"), line.ties()), (("e",), ("c",), ()))
        words = ["aabbaabb", "abababab", "abaabbba", "baaaabbb", "baabbaab", "bbaaaabb"]
        free = Table([(names[at], turns_of(word)) for at, word in enumerate(words + words)])
        rows = dict(zip(names, [tuple(word) for word in words + words]))
        self.check_pairs_alone(free, rows)

    def check_pairs_alone(self, table, rows):
        pairs, names = pairs_of(rows), tuple(sorted(rows))
        self.assertEqual(table.all_pairs(), tuple(pairs))
        for name in names:
            self.check_name(table, name, names, pairs)
        self.assertEqual(table.ties(), tuple((names[at], names[at + 6]) for at in range(6)))
        free = [share for share in subsets(names[:6])
                if not any((one, other) in pairs for one in share for other in share)]
        self.assertEqual(table.apart(), longest(free))

    def test_all_tied(self):
        turns = Turns.of("a 1; b 1")
        table = Table([(name, turns) for name in ("yew", "ash", "elm")])
        self.assertEqual(told(table), (("ash", "elm", "yew"), 3, (), (("ash", "elm", "yew"),), ("ash",), ("ash",),
                                       [("ash", "elm", "yew")], [turns.runs] * 3))
        self.assertEqual(table.bound_above(("ash", "yew")), turns)

    def test_turns_without_turns(self):
        table = Table((("b", Turns()), ("a", Turns())))
        self.assertEqual(told(table), (("a", "b"), 2, (), (("a", "b"),), ("a",), ("a",), [("a", "b")], [(), ()]))
        self.assertEqual(table.bound_below(("a", "b")), Turns())

    def test_without_names(self):
        for table in (Table(()), Table([]), Table(rows=())):
            self.assertEqual(told(table), ((), 0, (), (), (), (), [], []))
            self.assertIs("a" in table, False)
            self.assert_raises(NoTurns, {"name": "a"}, table.__getitem__, "a")
            self.assert_like(table, Table(()))
            self.assert_no_iteration(table)

    def test_values_and_ways_of_calling(self):
        rows = (("fig", Turns.of("a 1; b 2; a 1")), ("ash", Turns.of("b 1; a 2; b 1")), ("elm", Turns.of("a 2; b 2")))
        table = Table(rows)
        self.assert_gives(True, table.is_never_worse, name="elm", other="fig")
        self.assert_gives(False, table.is_never_worse, name="fig", other="ash")
        self.assert_gives((("elm", "ash"), ("elm", "fig")), table.all_pairs)
        for call in (table.below, table.next_below):
            self.assert_gives(("ash", "fig"), call, name="elm")
        for call in (table.above, table.next_above):
            self.assert_gives(("elm",), call, name="fig")
        self.assert_gives((), table.ties)
        self.assert_gives(("elm", "ash"), table.chain)
        self.assert_gives(("ash", "fig"), table.apart)
        self.assert_gives([("elm",), ("ash", "fig")], table.layers)
        self.assert_gives(Turns.of("a 1; b 1; a 1; b 1"), table.bound_above, names=("ash", "fig"))
        self.assert_gives(Turns.of("b 1; a 1; b 1; a 1"), table.bound_below, names=("ash", "fig"))
        self.assert_gives(Turns.of("b 1; a 1; b 1; a 1"), table.bound_below, names=("ash", "elm", "fig"))
        for value in (table.names, table.all_pairs(), table.ties(), table.chain(), table.apart(), table.layers()[0]):
            self.assertIs(type(value), tuple)

    def test_returned_lists_are_new(self):
        table = Table([("a", Turns.of("a 1")), ("b", Turns.of("b 1"))])
        found = table.layers()
        found.append("c")
        found[0] = None
        self.assertEqual(table.layers(), [("a",), ("b",)])
        self.assertEqual(table.chain(), ("a", "b"))

    def test_what_is_handed_in_is_copied(self):
        rows = [["b", Turns.of("b 1; a 1")], ["a", Turns.of("a 1; b 1")]]
        table, before = Table(rows), listed(rows)
        self.assertEqual(rows, before)
        kept = told(table)
        rows[0][0] = "z"
        rows[1][1] = Turns.of("a 2")
        rows.pop()
        self.assertEqual(told(table), kept)
        self.assert_like(table, Table((("a", Turns.of("a 1; b 1")), ("b", Turns.of("b 1; a 1")))))

    def test_known_ahead_of_other_things(self):
        one, other = Turns.of("a 1; b 1"), Turns.of("a 3")
        for rows, name in (
            ((("a", one), ("a", one)), "a"), ((("b", one), ("a", one), ("a", one), ("b", one)), "a"),
            ((("b", one), ("a", one), ("b", other), ("a", one)), "b"), ((("a", one), ("b", other), ("a", one)), "a"),
        ):
            self.assert_refuses(Known, {"name": name}, Table, rows=rows)
        for rows in (((("a", one), ("b", other))), (("a", other), ("b", one), ("c", one)),
                     (("a", one), ("b", one), ("c", other)), (("a", Turns()), ("b", one)),
                     (("a", Turns((("a", GREAT),))), ("b", Turns((("a", GREAT - 1),))))):
            self.assert_refuses(OtherThings, {}, Table, rows=rows)

    def test_names_that_are_none_of_the_table(self):
        table = Table((("a", Turns.of("a 1; b 1")), ("b", Turns.of("b 1; a 1"))))
        for name in ("x", "ab", "aa", "A"):
            self.assertIs(name in table, False)
            self.assert_raises(NoTurns, {"name": name}, table.__getitem__, name)
            for call in ONE_NAME:
                self.assert_refuses(NoTurns, {"name": name}, getattr(table, call), name=name)
            for one, other in ((name, "a"), (name, "y"), ("a", name)):
                self.assert_refuses(NoTurns, {"name": name}, table.is_never_worse, name=one, other=other)
        for call in (table.bound_above, table.bound_below):
            for names, name in ((("x",), "x"), (("a", "x"), "x"), (("a", "b", "c", "d"), "c"), (("c", "d"), "c"),
                                (("aa", "b"), "aa")):
                self.assert_refuses(NoTurns, {"name": name}, call, names=names)
        self.assertEqual(table.names, ("a", "b"))

    def test_equal(self):
        one, other = Turns.of("a 1; b 1"), Turns.of("b 1; a 1")
        table = Table((("a", one), ("b", other)))
        self.assert_like(table, Table([["b", other], ["a", Turns((("a", 1), ("b", 1)))]]))
        self.assert_unlike(table, [
            Table((("a", one), ("c", other))), Table((("a", other), ("b", one))), Table((("a", one), ("b", one))),
            Table((("a", one),)), Table(()), Table((("a", one), ("b", other), ("c", one))), None, 2, ("a", "b"),
            (("a", one), ("b", other)), one, [table], "",
        ])

    def test_no_setters_no_iteration_no_change(self):
        table = Table((("a", Turns.of("a 1; b 1")), ("b", Turns.of("b 1; a 1"))))
        self.assert_no_setters(table, ("names",))
        self.assert_no_iteration(table)
        with self.assertRaises(TypeError):
            table["a"] = Turns.of("a 2")
        with self.assertRaises(TypeError):
            del table["a"]
        for _ in range(2):
            self.assertEqual(len(table), 2)


if __name__ == "__main__":
    unittest.main()
