import re
import unittest
from itertools import product

from heirturns import texts
from heirturns.errors import BadText
from heirturns.texts import list_from, list_text, runs_from, runs_text, share_from, share_text
from tests.examples import check_examples

EXAMPLES = r'''
    >>> runs_text((("a", 1), ("b", 2), ("a", 1))), runs_text(()), list_text(("lamp", "cup", "rug")), share_text(("cup", "lamp")), share_text(())
    ('a 1; b 2; a 1', '-', 'lamp > cup > rug', 'cup+lamp', '-')
    >>> runs_from("a 1; b 2; a 1"), runs_from("-"), list_from("lamp > cup > rug"), share_from("cup+lamp"), list_from("-"), share_from("-")
    ((('a', 1), ('b', 2), ('a', 1)), (), ('lamp', 'cup', 'rug'), ('cup', 'lamp'), (), ())
    >>> runs_from("a 1; a 2")
    raises BadText(piece=1)
    >>> list_from("lamp > cup > lamp")
    raises BadText(piece=2)
    >>> share_from("lamp+cup")
    raises BadText(piece=0)
'''

WRONG_RUNS = (
    "", " ", "a", "b", "a ", " a 1", "a 1 ", "a  1", "a1", "a\t1", "a\n1", "a 1\n", "\na 1",
    "1 a", "1", "c 1", "A 1", "B 2", "ab 1", "aa 1", "a b", "- 1", "--", " -", "- ", "ann 1",
    "a 0", "a 00", "a 01", "a 007", "a -1", "a +1", "a 1.0", "a 1_0", "a 0x1", "a 1e3", "a 1 1", "a 1x", "a x1", "a 12b",
    "a \u0661", "a \u00b2", "a \uff11", "a 1\u0661", "a \u06f1\u06f2", "\u0430 1", "a\u00a01",
    "a 1;b 1", "a 1 ; b 1", "a 1,b 1", "a 1;", ";", ";a 1", "a 1;\tb 1",
)
WRONG_THINGS = (
    "", " ", "Lamp", "lamP", "abcdefghi", "lamp1", "1", "l-amp", "lam p", " lamp", "lamp ", "lamp\n",
    "\u00e9", "stra\u00dfe", "\u0430", "\uff41", "a_b", "--", "- ", "`", "{", "@", "[", "a.b", "\tcup",
)


class TextsTest(unittest.TestCase):
    def assert_wrong(self, reader, text, piece):
        with self.assertRaises(BadText, msg=repr(text)) as caught:
            reader(text)
        self.assertEqual(vars(caught.exception), {"piece": piece}, repr(text))

    def test_examples(self):
        self.assertEqual(check_examples(self, vars(texts), EXAMPLES), 5)

    def test_runs_read_back(self):
        for many in (1, 2, 9, 10, 11, 99, 100, 10 ** 30, 10 ** 40 - 1):
            for runs in ((("a", many),), (("b", many), ("a", 1)), (("a", 3), ("b", many), ("a", 30))):
                self.assertEqual(runs_from(runs_text(runs)), runs)

    def test_great_numbers_have_plain_digits(self):
        self.assertEqual(runs_text((("b", 10 ** 30),)), "b 1" + "0" * 30)

    def test_many_runs(self):
        runs = tuple(("ab"[at & 1], at + 1) for at in range(60))
        self.assertEqual(runs_from(runs_text(runs)), runs)

    def test_lists_read_back(self):
        for likes in ((), ("a",), ("z", "a"), ("abcdefgh", "i", "zzzzzzzz"), tuple("lkjihgfedcba")):
            self.assertEqual(list_from(list_text(likes)), likes)

    def test_shares_read_back(self):
        for share in ((), ("a",), ("a", "aa", "b"), ("abcdefgh", "zzzzzzzz"), tuple("abcdefghijkl")):
            self.assertEqual(share_from(share_text(share)), share)

    def test_lists_in_place_of_tuples(self):
        self.assertEqual(runs_text([["a", 1], ["b", 2]]), "a 1; b 2")
        self.assertEqual(runs_text([("a", 1)]), "a 1")
        self.assertEqual(runs_text((["b", 1],)), "b 1")
        self.assertEqual((runs_text([]), list_text([]), share_text([])), ("-", "-", "-"))
        self.assertEqual(list_text(["rug", "cup"]), "rug > cup")
        self.assertEqual(share_text(["cup", "rug"]), "cup+rug")

    def test_arguments_by_name(self):
        self.assertEqual(runs_text(runs=(("a", 1),)), "a 1")
        self.assertEqual(list_text(likes=("x", "a")), "x > a")
        self.assertEqual(share_text(share=("a", "x")), "a+x")
        self.assertEqual(runs_from(text="b 3"), (("b", 3),))
        self.assertEqual(list_from(text="x > a"), ("x", "a"))
        self.assertEqual(share_from(text="a+x"), ("a", "x"))

    def test_arguments_stay(self):
        runs, likes, share = [["a", 1], ["b", 2]], ["rug", "cup"], ["cup", "rug"]
        runs_text(runs), list_text(likes), share_text(share)
        self.assertEqual((runs, likes, share), ([["a", 1], ["b", 2]], ["rug", "cup"], ["cup", "rug"]))

    def test_kinds_of_values(self):
        runs = runs_from("a 1; b 2")
        self.assertIs(type(runs), tuple)
        self.assertEqual([(type(run), type(run[1])) for run in runs], [(tuple, int), (tuple, int)])
        self.assertIs(type(list_from("x > a")), tuple)
        self.assertIs(type(share_from("a+x")), tuple)
        self.assertIs(type(runs_from("-")), tuple)

    def test_wrong_runs(self):
        for text in WRONG_RUNS:
            self.assert_wrong(runs_from, text, 0)

    def test_wrong_pieces_of_runs(self):
        for wrong in WRONG_RUNS:
            self.assert_wrong(runs_from, "a 2; b 3; " + wrong, 2)
            self.assert_wrong(runs_from, "b 2; " + wrong + "; a x", 1)

    def test_an_heir_twice_in_a_row(self):
        self.assert_wrong(runs_from, "a 1; a 1", 1)
        self.assert_wrong(runs_from, "b 2; a 1; b 1; b 7; b 8", 3)

    def test_the_first_wrong_run_is_told(self):
        self.assert_wrong(runs_from, "a 1; b 0; b 1; c", 1)
        self.assert_wrong(runs_from, "a 1; b 1; b 1; c", 2)
        self.assert_wrong(runs_from, "x; a 1; a 1", 0)

    def test_empty_pieces_of_runs(self):
        self.assert_wrong(runs_from, "a 1; ", 1)
        self.assert_wrong(runs_from, "; a 1", 0)
        self.assert_wrong(runs_from, "a 1; ; b 1", 1)
        self.assert_wrong(runs_from, "a 1; b 1; ; ", 2)
        self.assert_wrong(runs_from, "a 1; -", 1)
        self.assert_wrong(runs_from, "-; a 1", 0)

    def test_wrong_things_of_lists(self):
        for wrong in WRONG_THINGS:
            self.assert_wrong(list_from, wrong, 0)
            self.assert_wrong(list_from, wrong + " > cup", 0)
            self.assert_wrong(list_from, "cup > rug > " + wrong, 2)
            self.assert_wrong(list_from, "cup > " + wrong + " > cup", 1)

    def test_wrong_lists(self):
        for text, piece in (
            (" > ", 0), ("x > ", 1), (" > x", 0), ("x >  > y", 1), ("x > > y", 1), ("x>y", 0), ("x >y", 0),
            ("x> y", 0), ("x  > y", 0), ("x >  y", 1), ("x+y", 0), ("x > -", 1), ("- > x", 0), ("x > x", 1),
            ("x > y > z > y > x", 3), ("x > y > x > Q", 2), ("x > Q > x", 1), ("x\n > y", 0), ("x >", 0),
        ):
            self.assert_wrong(list_from, text, piece)

    def test_wrong_shares(self):
        for wrong in WRONG_THINGS:
            self.assert_wrong(share_from, wrong, 0)
            self.assert_wrong(share_from, wrong + "+cup", 0)
            self.assert_wrong(share_from, "cup+" + wrong, 0)
            self.assert_wrong(share_from, "cup+" + wrong + "+rug", 0)
        for text in ("+", "x+", "+x", "x++y", "x +y", "x+ y", "x + y", "x > y", "x+x", "b+a", "a+c+b",
                     "b+a+c", "a+b+b", "aa+a", "x+-", "-+x", "x,y"):
            self.assert_wrong(share_from, text, 0)

    def test_all_short_texts(self):
        for size in range(5):
            for signs in product("ab 012;-", repeat=size):
                text = "".join(signs)
                if re.fullmatch("-|[ab] [12][012]?", text):
                    self.assertEqual(runs_text(runs_from(text)), text)
                else:
                    self.assert_wrong(runs_from, text, 0)


if __name__ == "__main__":
    unittest.main()
