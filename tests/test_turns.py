import unittest

from heirturns import turns as turns_file
from heirturns.errors import BadRun, BadText, NoNumber, NoPlace, OtherThings
from heirturns.turns import (
    Turns, ahead, backwards, check_size, corners, exchanged, first_part, handed, heirs,
    his_turn_of, is_runs, rest_of, swapped, turn_of, turns_of,
)
from tests.calls import Calls, nested
from tests.examples import check_examples
from tests.models import GREAT, rows_to

EXAMPLES = r'''
    >>> turns = Turns((("a", 1), ("b", 1), ("b", 1), ("a", 2)))
    >>> turns.runs, turns.size, turns.hers, turns.his, turns.ends, turns.text, len(turns)
    ((('a', 1), ('b', 2), ('a', 2)), 5, 3, 2, (1, 3, 5), 'a 1; b 2; a 2', 3)
    >>> turns[1], turns[3], turns[5], [ahead(turns, number) for number in range(-1, 7)], turn_of(turns, 2), his_turn_of(turns, 2)
    ('a', 'b', 'a', [0, 0, 1, 1, 1, 2, 3, 3], 4, 3)
    >>> first_part(turns, 2).text, rest_of(turns, 2).text, backwards(turns).text, swapped(turns).text, (turns + turns).text, Turns().text
    ('a 1; b 1', 'b 1; a 2', 'a 2; b 2; a 1', 'b 1; a 2; b 2', 'a 1; b 2; a 3; b 2; a 2', '-')
    >>> heirs(turns), turns_of(("b", "a", "a")).runs, exchanged(turns, 3).text, handed(turns, 2).text, corners(turns, Turns.of("b 2; a 3"))
    (('a', 'b', 'b', 'a', 'a'), (('b', 1), ('a', 2)), 'a 1; b 1; a 1; b 1; a 1', 'a 2; b 1; a 2', (0, 1, 2, 3, 5))
    >>> is_runs((("a", 1), ("a", 2))), is_runs((("c", 1),)), is_runs(()), Turns.of("a 2") == Turns((("a", 1), ("a", 1)))
    (False, False, True, True)
    >>> Turns((("a", 2), ("c", 1)))
    raises BadRun(place=1)
    >>> Turns.of("a 2; a 1")
    raises BadText(piece=1)
    >>> turns[0]
    raises NoPlace(number=0)
    >>> turn_of(turns, 4)
    raises NoNumber(number=4)
    >>> check_size(turns, Turns())
    raises OtherThings()
'''


class ClassTest(Calls):
    def test_examples(self):
        self.assertEqual(check_examples(self, vars(turns_file), EXAMPLES), 10)

    def test_without_turns(self):
        for turns in (Turns(), Turns(()), Turns([]), Turns(runs=()), Turns.of("-")):
            told = (turns.runs, turns.size, turns.hers, turns.his, turns.ends, turns.text, len(turns))
            self.assertEqual(told, ((), 0, 0, 0, (), "-", 0))
            self.assertEqual(turns, Turns())

    def test_neighbours_are_put_together(self):
        self.assertEqual(Turns((("a", 1), ("a", 2), ("a", 3))).runs, (("a", 6),))
        self.assertEqual(Turns((("b", 1), ("a", 2), ("a", 3), ("b", 4), ("b", 5))).runs,
                         (("b", 1), ("a", 5), ("b", 9)))
        self.assertEqual(Turns((("a", GREAT), ("a", 1))).runs, (("a", GREAT + 1),))
        self.assertEqual(Turns([("a", 1)] * 60).runs, (("a", 60),))
        self.assertEqual(len(Turns([("a", 1), ("b", 1)] * 30)), 60)

    def test_great_numbers(self):
        turns = Turns((("a", GREAT), ("b", GREAT - 1), ("a", 1)))
        self.assertEqual((turns.size, turns.hers, turns.his), (2 * GREAT, GREAT + 1, GREAT - 1))
        self.assertEqual(turns.ends, (GREAT, 2 * GREAT - 1, 2 * GREAT))
        self.assertEqual([turns[GREAT], turns[GREAT + 1], turns[2 * GREAT - 1], turns[2 * GREAT]], list("abba"))
        self.assertEqual(Turns.of(turns.text), turns)

    def test_all_short_rows(self):
        for row in rows_to(6):
            turns = Turns([(heir, 1) for heir in row])
            self.assertTrue(is_runs(turns.runs))
            self.assertEqual(turns.size, len(row))
            self.assertEqual((turns.hers, turns.his), (row.count("a"), row.count("b")))
            self.assertEqual(tuple(turns[at + 1] for at in range(len(row))), row)
            ends = [at for at in range(1, len(row) + 1) if row[at - 1:at + 1] in (("a", "b"), ("b", "a"))]
            self.assertEqual(turns.ends, tuple(ends + [len(row)] * (row != ())))
            self.assertEqual(len(turns), len(turns.ends))
            self.assertEqual(Turns.of(turns.text), turns)
            self.assertEqual(Turns(turns.runs), turns)

    def test_bad_runs(self):
        for heir in ("c", "", "ab", "A", "B", " a", "a ", "ann", "-", "\u0430"):
            self.assert_raises(BadRun, {"place": 0}, Turns, ((heir, 1),))
            self.assert_raises(BadRun, {"place": 2}, Turns, (("a", 1), ("b", 1), (heir, 1), ("a", 0)))
        for many in (0, -1, -GREAT):
            self.assert_raises(BadRun, {"place": 0}, Turns, (("b", many),))
            self.assert_raises(BadRun, {"place": 1}, Turns, (("a", 1), ("a", many)))
            self.assert_raises(BadRun, {"place": 1}, Turns, [["a", 1], ["b", many], ["c", 1]])

    def test_the_place_counts_pairs_not_runs(self):
        self.assert_raises(BadRun, {"place": 3}, Turns, (("a", 1), ("a", 1), ("a", 1), ("c", 1)))
        self.assert_raises(BadRun, {"place": 59}, Turns, [("a", 1)] * 59 + [("b", 0)])

    def test_lists_in_place_of_tuples(self):
        for runs in ([["a", 1], ["b", 2]], [("a", 1), ("b", 2)], (["a", 1], ["b", 2]), (["a", 1], ("b", 2))):
            turns = Turns(runs)
            self.assertEqual(turns.runs, (("a", 1), ("b", 2)))
            self.assertTrue(is_runs(turns.runs))

    def test_what_is_handed_in_stays_and_is_copied(self):
        runs = [["a", 1], ["a", 2], ["b", 3]]
        turns = Turns(runs)
        self.assertEqual(runs, [["a", 1], ["a", 2], ["b", 3]])
        runs[0][1] = 9
        runs[2][0] = "a"
        runs.append(["a", 5])
        self.assertEqual(turns.runs, (("a", 3), ("b", 3)))

    def test_no_setters(self):
        turns = Turns.of("a 1; b 1")
        for name in ("runs", "size", "hers", "his", "ends", "text"):
            with self.assertRaises(AttributeError):
                setattr(turns, name, getattr(turns, name))
        with self.assertRaises(TypeError):
            turns[1] = "b"
        self.assertEqual(turns, Turns.of("a 1; b 1"))

    def test_of_by_name_and_off_an_object(self):
        self.assertEqual(Turns.of(text="a 1; b 2").runs, (("a", 1), ("b", 2)))
        self.assertEqual(Turns().of("b 2").runs, (("b", 2),))
        self.assertIsInstance(vars(Turns)["of"], staticmethod)

    def test_of_wrong_texts(self):
        for text, piece in (("", 0), ("a 01", 0), ("a 0", 0), ("b -1", 0), ("a  1", 0), ("a \u0661", 0),
                            ("a 1; b 1; c 1", 2), ("a 1; b 2; b 1; x", 2), ("a 1; ", 1), ("a 1;b 1", 0)):
            self.assert_raises(BadText, {"piece": piece}, Turns.of, text)

    def test_no_such_turn(self):
        for turns in (Turns(), Turns.of("a 1; b 2"), Turns.of("b " + str(GREAT))):
            for number in (-GREAT, -2, -1, 0, turns.size + 1, turns.size + 2, 9 * GREAT):
                self.assert_raises(NoPlace, {"number": number}, turns.__getitem__, number)

    def test_no_iteration(self):
        for turns in (Turns(), Turns.of("a 1; b 2")):
            with self.assertRaises(TypeError):
                iter(turns)
            with self.assertRaises(TypeError):
                list(turns)
            with self.assertRaises(TypeError):
                for _ in turns:
                    pass

    def test_equal(self):
        turns = Turns.of("a 1; b 2")
        self.assertTrue(turns == Turns([["a", 1], ["b", 1], ["b", 1]]))
        self.assertFalse(turns != Turns((("a", 1), ("b", 2))))
        for other in (Turns(), Turns.of("a 1; b 1"), Turns.of("b 1; a 2"), turns.runs, turns.text, 3, None,
                      [turns], ("a", "b", "b")):
            self.assertIs(turns == other, False)
            self.assertIs(turns != other, True)
            self.assertIs(other == turns, False)
        self.assertIs(Turns() == (), False)

    def test_sums(self):
        for one in rows_to(4):
            for other in rows_to(3):
                left, right = turns_of(one), turns_of(other)
                self.assertEqual(left + right, turns_of(one + other))
                self.assertEqual((left, right), (turns_of(one), turns_of(other)))


class IsRunsTest(Calls):
    def test_are_runs(self):
        for thing in ((), (("a", 1),), (("b", 10 ** 500),), (("a", 1), ("b", 1), ("a", 1)),
                      tuple(("ab"[at & 1], 10 ** at) for at in range(500))):
            self.assertIs(is_runs(thing), True)

    def test_are_none(self):
        for thing in (
            None, True, False, 0, 1, 10 ** 500, "", "a 1", "a", [], [("a", 1)], (["a", 1],), ("a", 1), (("a",),),
            (("a", 1, 1),), ((),), ([],), ("",), ("a1",), (None,), (1,), (True,), ((("a", 1),),), ((1, "a"),),
            (("a", 0),), (("a", -1),), (("a", -10 ** 500),), (("a", True),), (("a", False),), (("a", None),),
            (("a", "1"),), (("a", ()),), (("a", (1,)),), (("a", [1]),), (("", 1),), (("ab", 1),), (("A", 1),),
            (("c", 1),), ((None, 1),), ((True, 1),), ((1, 1),), ((["a"], 1),), ((("a",), 1),), (([], []),),
            (("a", 1), ("a", 1)), (("b", 1), ("a", 2), ("a", 3)), (("a", 1), ("b", 1), ["a", 1]),
            (("a", 1), ("b", 1), None), (("a", 1), "b1"), nested(12), [nested(11)], (("a", nested(10)),),
            (("a", 1),) * 500,
        ):
            self.assertIs(is_runs(thing), False, repr(thing)[:80])

    def test_by_name(self):
        self.assertIs(is_runs(thing=(("a", 1),)), True)


class FunctionsTest(Calls):
    def test_ahead(self):
        for row in rows_to(5):
            turns = turns_of(row)
            for number in range(-2, 8):
                self.assertEqual(ahead(turns, number), row[:max(number, 0)].count("a"))

    def test_parts(self):
        for row in rows_to(5):
            turns = turns_of(row)
            for number in range(-2, 8):
                cut = max(number, 0)
                self.assertEqual(first_part(turns, number), turns_of(row[:cut]))
                self.assertEqual(rest_of(turns, number), turns_of(row[cut:]))
            self.assertEqual(turns, turns_of(row))

    def test_turn_of(self):
        for row in rows_to(5):
            turns = turns_of(row)
            for heir, call in (("a", turn_of), ("b", his_turn_of)):
                own = [at + 1 for at in range(len(row)) if row[at] == heir]
                for which in range(-2, 8):
                    if 1 <= which <= len(own):
                        self.assertEqual(call(turns, which), own[which - 1])
                    else:
                        self.assert_raises(NoNumber, {"number": which}, call, turns, which)

    def test_great_numbers(self):
        turns = Turns((("b", GREAT), ("a", GREAT), ("b", 1), ("a", 2)))
        for number, many in ((-GREAT, 0), (GREAT, 0), (GREAT + 7, 7), (2 * GREAT + 1, GREAT), (9 * GREAT, GREAT + 2)):
            self.assertEqual(ahead(turns, number), many)
        self.assertEqual([turn_of(turns, which) for which in (1, GREAT, GREAT + 1, GREAT + 2)],
                         [GREAT + 1, 2 * GREAT, 2 * GREAT + 2, 2 * GREAT + 3])
        self.assertEqual([his_turn_of(turns, which) for which in (1, GREAT, GREAT + 1)], [1, GREAT, 2 * GREAT + 1])
        self.assert_raises(NoNumber, {"number": GREAT + 3}, turn_of, turns, GREAT + 3)
        self.assert_raises(NoNumber, {"number": GREAT + 2}, his_turn_of, turns, GREAT + 2)
        self.assertEqual(first_part(turns, GREAT + 1).runs, (("b", GREAT), ("a", 1)))
        self.assertEqual(rest_of(turns, GREAT + 1).runs, (("a", GREAT - 1), ("b", 1), ("a", 2)))
        self.assertEqual(first_part(turns, GREAT) + rest_of(turns, GREAT), turns)
        self.assertEqual(backwards(turns).runs, (("a", 2), ("b", 1), ("a", GREAT), ("b", GREAT)))
        self.assertEqual(swapped(turns).runs, (("a", GREAT), ("b", GREAT), ("a", 1), ("b", 2)))
        self.assertEqual(exchanged(turns, GREAT).runs,
                         (("b", GREAT - 1), ("a", 1), ("b", 1), ("a", GREAT - 1), ("b", 1), ("a", 2)))
        self.assertEqual(exchanged(turns, 2 * GREAT).runs,
                         (("b", GREAT), ("a", GREAT - 1), ("b", 1), ("a", 3)))
        self.assertEqual(handed(turns, 5).runs,
                         (("b", 4), ("a", 1), ("b", GREAT - 5), ("a", GREAT), ("b", 1), ("a", 2)))
        self.assertEqual(handed(turns, 2 * GREAT + 1).runs, (("b", GREAT), ("a", GREAT + 3)))
        self.assertEqual(corners(turns, Turns((("a", GREAT + 1),))),
                         (0, GREAT, GREAT + 1, 2 * GREAT, 2 * GREAT + 1, 2 * GREAT + 3))

    def test_turned_round_and_swapped(self):
        other = {"a": "b", "b": "a"}
        for row in rows_to(6):
            turns = turns_of(row)
            self.assertEqual(backwards(turns), turns_of(row[::-1]))
            self.assertEqual(swapped(turns), turns_of([other[heir] for heir in row]))
            self.assertEqual(turns, turns_of(row))

    def test_heirs(self):
        for row in rows_to(6):
            self.assertEqual(heirs(turns_of(row)), row)
            self.assertEqual(turns_of(row).runs, Turns([(heir, 1) for heir in row]).runs)
        self.assertEqual(heirs(Turns.of("b 40")), ("b",) * 40)
        self.assertEqual(turns_of(["a"] * 40), Turns.of("a 40"))
        self.assertEqual(turns_of(()), Turns())

    def test_exchanged(self):
        for row in rows_to(5):
            turns = turns_of(row)
            for place in range(-2, 8):
                if 1 <= place < len(row):
                    new = row[:place - 1] + (row[place], row[place - 1]) + row[place + 1:]
                    self.assertEqual(exchanged(turns, place), turns_of(new))
                else:
                    self.assert_raises(NoPlace, {"number": place}, exchanged, turns, place)
            self.assertEqual(turns, turns_of(row))

    def test_handed(self):
        for row in rows_to(5):
            turns = turns_of(row)
            for place in range(-2, 8):
                if 1 <= place <= len(row):
                    self.assertEqual(handed(turns, place), turns_of(row[:place - 1] + ("a",) + row[place:]))
                else:
                    self.assert_raises(NoPlace, {"number": place}, handed, turns, place)
            self.assertEqual(turns, turns_of(row))

    def test_no_place_with_great_numbers(self):
        turns = Turns((("b", GREAT), ("a", GREAT)))
        for place in (-GREAT, 0, 2 * GREAT, 2 * GREAT + 1):
            self.assert_raises(NoPlace, {"number": place}, exchanged, turns, place)
        for place in (-GREAT, 0, 2 * GREAT + 1):
            self.assert_raises(NoPlace, {"number": place}, handed, turns, place)
        self.assertEqual(handed(turns, 2 * GREAT), turns)

    def test_check_size(self):
        self.assertIsNone(check_size(Turns(), Turns()))
        self.assertIsNone(check_size(Turns.of("a 2; b 1"), Turns.of("b 3")))
        self.assert_raises(OtherThings, {}, check_size, Turns(), Turns.of("a 1"))
        self.assert_raises(OtherThings, {}, check_size, Turns.of("a 2; b 1"), Turns.of("a 2; b 2"))
        self.assert_raises(OtherThings, {}, check_size, Turns.of("b " + str(GREAT)), Turns.of("b " + str(GREAT - 1)))

    def test_corners(self):
        self.assertEqual(corners(Turns(), Turns()), (0,))
        self.assertEqual(corners(Turns(), Turns.of("a 2")), (0, 2))
        left, right = Turns([("ab"[at & 1], 10 ** at) for at in range(30)]), Turns([("b", 7 ** 20), ("a", 5 ** 30)])
        self.assertEqual(corners(left, right), tuple(sorted([0, 7 ** 20, 7 ** 20 + 5 ** 30, *left.ends])))
        for one in rows_to(4):
            for other in rows_to(4):
                left, right = turns_of(one), turns_of(other)
                self.assertEqual(corners(left, right), tuple(sorted({0, *left.ends, *right.ends})))

    def test_kinds_of_values(self):
        turns = Turns.of("a 1; b 2")
        for value in (turns.runs, turns.ends, heirs(turns), corners(turns, turns)):
            self.assertIs(type(value), tuple)
        for value in (first_part(turns, 1), rest_of(turns, 1), backwards(turns), swapped(turns), turns + turns,
                      turns_of("ab"), exchanged(turns, 1), handed(turns, 2), first_part(turns, 9)):
            self.assertIs(type(value), Turns)

    def test_arguments_by_name(self):
        turns = Turns.of("a 1; b 2; a 1")
        self.assertEqual(ahead(turns=turns, number=2), 1)
        self.assertEqual(turn_of(turns=turns, which=2), 4)
        self.assertEqual(his_turn_of(turns=turns, which=2), 3)
        self.assertEqual(first_part(turns=turns, number=2).text, "a 1; b 1")
        self.assertEqual(rest_of(turns=turns, number=2).text, "b 1; a 1")
        self.assertEqual(backwards(turns=turns), turns)
        self.assertEqual(swapped(turns=turns).text, "b 1; a 2; b 1")
        self.assertEqual(heirs(turns=turns), tuple("abba"))
        self.assertEqual(turns_of(heirs_told=["a", "b"]).text, "a 1; b 1")
        self.assertEqual(exchanged(turns=turns, place=1).text, "b 1; a 1; b 1; a 1")
        self.assertEqual(handed(turns=turns, place=2).text, "a 2; b 1; a 1")
        self.assertIsNone(check_size(one=turns, other=turns))
        self.assertEqual(corners(one=turns, other=turns), (0, 1, 3, 4))

    def test_lists_handed_in_stay(self):
        told = ["a", "b", "b"]
        turns = turns_of(told)
        told.append("a")
        self.assertEqual(turns.text, "a 1; b 2")
        told = [["a", 1], ["b", 1]]
        is_runs(told)
        self.assertEqual(told, [["a", 1], ["b", 1]])


if __name__ == "__main__":
    unittest.main()
