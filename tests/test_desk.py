import random
import unittest
from fractions import Fraction

from heirturns import desk as desk_file
from heirturns.desk import answers
from heirturns.errors import BadLine
from heirturns.turns import turns_of
from tests.calls import Calls
from tests.examples import check_examples
from tests.models import GREAT, NAMES, is_row_above, is_worse, plain_share, plain_taken, takes_tried_out
from tests.test_board import SOME_NAMES, Model, some_deed
from tests.test_chances import counted
from tests.test_known import sets_of, well_played

EXAMPLES = r'''
    >>> answers("turns fair a 1; b 2; a 1\nturns even a 1; b 1; a 1; b 1\nnever even fair\nnever fair even\ntops 4\ntops 3\nlist a\nshares fair\nlike a w > x > y > z\nbest even\nchance even x\nlike b x > y > w > z\nshares even\ntaken even\nbest even\nwell even\nlist b\nnames")
    ['done', 'done', 'yes', 'no', 'even', '-', 'none', 'refused OtherThings', 'done', 'refused OtherThings', '2/3', 'done', 'w+y x+z', 'w > x > y > z', 'w+x', 'w+x y+z', 'x > y > w > z', 'even fair']
    >>> answers("turns x -\nruns x\nlike a -\nlike b -\nshares x\ntaken x\nbest x\nadd x 2 a 1\nadd x 1 b 3\nadd x 2 a 1\nruns x\nexchange x 1\nruns x\nexchange x 4\nremove x 3 2\nsize x\nchance x q\nlike a q > r\nchance x q\nchance x s\nundo\nlist a\nrename x x\ndrop y\nundo\nruns x\nbest y")
    ['done', '-', 'done', 'done', '- -', '-', '-', 'refused NoPlace', 'done', 'done', 'b 1; a 1; b 2', 'done', 'a 1; b 3', 'refused NoPlace', 'done', '2', 'refused OtherThings', 'done', '1/1', 'refused NoThing', 'done', '-', 'refused Known', 'refused NoTurns', 'done', 'a 1; b 3', 'refused NoTurns']
    >>> answers(""), answers("undo\nnames")
    ([], ['refused NothingDone', '-'])
    >>> answers("names\nlike c x")
    raises BadLine(number=1)
    >>> answers("turns x a 1; a 2\nnames")
    raises BadLine(number=0)
    >>> answers("names\n")
    raises BadLine(number=1)
'''

# One line of each kind, each written as it must be.
GOOD = (
    "turns fig a 1; b 2", "turns ash -", "drop fig", "rename fig ash", "add fig 0 a 1", "add fig 12 b 10",
    "remove fig 3 4", "exchange fig 0", "like a x > yy > z", "like b -", "undo", "names", "runs fig", "size fig",
    "list a", "list b", "never fig ash", "tops 0", "tops 40", "shares fig", "taken fig", "best fig", "well fig",
    "chance fig x", "turns turns a 1", "drop drop", "runs a", "chance b b", "turns abcdefgh b 7",
    "tops " + "9" * 40, "add fig " + "9" * 40 + " a " + "1" + "0" * 39,
)
BAD = (
    "", " ", "-", "nothing", "Names", "names ", " names", "names x", "names  ", "undo 1", "undo ", "undos", "und",
    "turns", "turns ", "turns fig", "turns fig ", "turns fig  a 1", "turns  fig a 1", "turns Fig a 1", "turns fig a 0",
    "turns fig a 01", "turns fig a 1;b 1", "turns fig a 1; a 1", "turns fig a 1; c 1", "turns fig a 1; ",
    "turns fig a 1 ; b 1", "turns fig a -1", "turns fig a", "turns fig a  1", "turns fig a 1 ", "turns fig --",
    "turns fig - ", "turns abcdefghi a 1", "turns f1 a 1", "turns - a 1", "turns fig a 1\tb 1", "turns fig a +1",
    "turns a 1; b 2", "drop", "drop ", "drop fig ash", "drop fig ", "drop  fig", "drop FIG", "drop 1", "drop -",
    "rename fig", "rename fig ", "rename fig ash elm", "rename fig  ash", "rename fig -", "rename 1 fig",
    "add fig 1 a", "add fig 1 a 0", "add fig 1 a 01", "add fig 1 c 1", "add fig 01 a 1", "add fig -1 a 1",
    "add fig 1 A 1", "add fig 1 a 1 1", "add fig a 1 1", "add fig 1 ab 1", "add fig 1 a 1 ", "add fig 00 a 1",
    "add fig x a 1", "add fig 1.0 a 1", "add fig  1 a 1", "add 1 a 1", "add fig 1 a +1", "add fig 1 a 1_0",
    "remove fig 1", "remove fig 1 0", "remove fig 1 00", "remove fig 01 1", "remove fig 1 1 1", "remove fig -1 1",
    "remove fig", "remove fig 1 x", "remove fig 1 1 ", "exchange fig", "exchange fig 01", "exchange fig -0",
    "exchange fig 1 2", "exchange fig x", "exchange fig ", "exchange 1", "exchange fig 1 ", "exchange fig \u0661",
    "like", "like a", "like a ", "like c x", "like x", "like a x>y", "like a x > x", "like a x >  y", "like a x > ",
    "like a  x", "like ab x", "like a X", "like a x > 1", "like a abcdefghi", "like a x > y ", "like a x y", "like A x",
    "like a - > x", "like a x > -", "like a --", "like -", "names names", "runs", "runs ", "runs fig ash", "runs FIG",
    "size", "size fig 1", "size 1", "list", "list c", "list ab", "list a b", "list ", "list fig", "list a ",
    "never fig", "never fig ", "never fig ash elm", "never fig  ash", "never fig 1", "tops", "tops ", "tops x",
    "tops 01", "tops 00", "tops -1", "tops +1", "tops 1 2", "tops 1 ", "tops  1", "tops \u0664", "tops \u00b2",
    "shares", "shares fig ash", "shares  fig", "taken", "taken 1", "taken fig ", "best", "best fig x", "best -",
    "well", "well fig x", "wells fig", "chance fig", "chance fig ", "chance fig x y", "chance fig 1", "chance fig X",
    "chance  fig x", "chance fig x ", "chance fig abcdefghi", "tell fig", "put fig a 1", "twin", "deeds", "\tnames",
    "names\t", "names\r", "turns fig a 1\r", "\u00e4",
)


def runs_of(row):
    """The text of the runs, - for none."""
    pieces = []
    for at, heir in enumerate(row):
        if at and row[at - 1] == heir:
            pieces[-1][1] += 1
        else:
            pieces.append([heir, 1])
    return "; ".join(f"{heir} {many}" for heir, many in pieces) or "-"


def line_of(deed):
    """The deed as a request."""
    word, name, *told = deed
    if word == "put":
        return f"turns {name} {runs_of(told[0])}"
    if word == "like":
        return f"like {name} {' > '.join(told[0]) or '-'}"
    return " ".join([word, name, *map(str, told)])


def set_text(names):
    return "+".join(names) or "-"


def likes_text(names):
    return " > ".join(names) or "-"


class Answers:
    """The answers to questions, tried out plainly; a ValueError tells of a refusal."""

    def __init__(self, model):
        self.model = model

    def row(self, name):
        if name not in self.model.rows:
            raise ValueError("NoTurns")
        return self.model.rows[name]

    def game(self, name):
        row, hers, his = self.row(name), self.model.hers, self.model.his
        if hers is None or his is None or sorted(hers) != sorted(his) or len(hers) != len(row):
            raise ValueError("OtherThings")
        return row, hers, his

    def names(self):
        return " ".join(sorted(self.model.rows)) or "-"

    def runs(self, name):
        return runs_of(self.row(name))

    def size(self, name):
        return str(len(self.row(name)))

    def list(self, heir):
        likes = self.model.hers if heir == "a" else self.model.his
        return "none" if likes is None else likes_text(likes)

    def never(self, name, to):
        one, other = self.row(name), self.row(to)
        if len(one) != len(other):
            raise ValueError("OtherThings")
        return "yes" if is_row_above(one, other) else "no"

    def tops(self, number):
        own = {name: row for name, row in self.model.rows.items() if str(len(row)) == number}
        best = [name for name, row in own.items() if all(is_row_above(row, other) for other in own.values())]
        return " ".join(sorted(best)) or "-"

    def shares(self, name):
        row, hers, his = self.game(name)
        return set_text(plain_share(row, hers, his)) + " " + set_text(plain_share(row, hers, his, "b"))

    def taken(self, name):
        return likes_text(plain_taken(*self.game(name)))

    def best(self, name):
        row, hers, his = self.game(name)
        can = takes_tried_out(row, his)
        found, = [one for one in can if not any(is_worse(hers, one, other) for other in can)]
        return set_text(found)

    def well(self, name):
        row, hers, his = self.game(name)
        both = sets_of(row, well_played(row, hers, his))
        return set_text(both["a"]) + " " + set_text(both["b"])

    def chance(self, name, wanted):
        row, hers = self.row(name), self.model.hers
        if hers is None or len(hers) != len(row):
            raise ValueError("OtherThings")
        if wanted not in hers:
            raise ValueError("NoThing")
        # Chances go by places: the things at these places stand for those of the list.
        own = NAMES[hers.index(wanted)]
        chance = Fraction(sum(many for share, many in counted(row, NAMES[:len(row)]).items() if own in share))
        return f"{chance.numerator}/{chance.denominator}"

    def answer(self, line):
        word, *told = line.split(" ")
        try:
            return getattr(self, word)(*told)
        except ValueError as error:
            return f"refused {error}"


def some_question(rng, names):
    """A question about Turns with these names, sometimes about other ones."""
    names = (*SOME_NAMES, *names * 5)
    name, word = rng.choice(names), rng.choice(
        "names runs size list never never tops shares shares taken taken best best well well chance chance".split())
    told = {"names": [], "list": [rng.choice("ab")], "never": [name, rng.choice(names)],
            "tops": [str(rng.randint(0, 6))], "chance": [name, rng.choice(NAMES[:4])]}
    return " ".join([word, *told.get(word, [name])])


class DeskTest(Calls):
    def test_examples(self):
        self.assertEqual(check_examples(self, vars(desk_file), EXAMPLES), 6)

    def test_requests_by_chance(self):
        rng = random.Random(1)
        for turn in range(60):
            lines, expected, models = [], [], [Model()]
            while len(lines) < 60:
                self.add_lines(rng, lines, expected, models)
            self.assertEqual(answers("\n".join(lines)), expected, lines)

    def add_lines(self, rng, lines, expected, models):
        kind = rng.random()
        if kind < 0.1:
            lines.append("undo")
            expected.append("done" if len(models) > 1 else "refused NothingDone")
            del models[max(len(models) - 1, 1):]
        elif kind < 0.4:
            self.add_deed(some_deed(rng), lines, expected, models)
        elif kind < 0.58:
            # Turns and lists that go together, so that questions about both are answered.
            many, name = rng.randint(0, 4), rng.choice(SOME_NAMES)
            for deed in (("drop", name), ("put", name, tuple(rng.choice("ab") for at in range(many))),
                         *[("like", heir, tuple(rng.sample(NAMES[:many], many))) for heir in "ab"]):
                self.add_deed(deed, lines, expected, models)
        else:
            line = some_question(rng, tuple(models[-1].rows))
            lines.append(line)
            expected.append(Answers(models[-1]).answer(line))

    def add_deed(self, deed, lines, expected, models):
        behind = models[-1].after(*deed)
        if deed[0] in ("add", "remove", "exchange") and deed[2] < 0:
            # No number below 0 can be written.
            return
        lines.append(line_of(deed))
        if isinstance(behind, Model):
            models.append(behind)
            expected.append("done")
        else:
            expected.append("refused " + behind[0].__name__)

    def test_each_good_line_is_one(self):
        for line in GOOD:
            self.assertEqual(len(answers(line)), 1, line)
            self.assertEqual(len(answers("\n".join([line] * 60))), 60)

    def test_each_bad_line_at_each_place(self):
        for line in BAD:
            for at in range(4):
                lines = list(GOOD[:at]) + [line] + list(GOOD[at:5])
                if lines != [""]:
                    self.assert_refuses(BadLine, {"number": at}, answers, text="\n".join(lines))

    def test_the_first_bad_line_decides(self):
        lines = ["names", "drop fig", "like c x", "names", "", "tops 01"]
        for at, number in ((0, 2), (3, 4), (5, 5)):
            text = "\n".join(["names"] * at + lines[at:])
            self.assert_refuses(BadLine, {"number": number}, answers, text=text)
        self.assert_refuses(BadLine, {"number": 59}, answers, text="\n".join(["names"] * 59 + ["name"]))

    def test_line_feeds(self):
        for text, number in (("\n", 0), ("\nnames", 0), ("names\n", 1), ("names\n\nnames", 1), ("undo\nundo\n\n", 2)):
            self.assert_refuses(BadLine, {"number": number}, answers, text=text)
        for sign in ("\r", "\x0b", "\x0c", "\x1c", "\x85", "\u2028"):
            self.assert_refuses(BadLine, {"number": 0}, answers, text="names" + sign + "names")

    def test_without_lines(self):
        self.assert_gives([], answers, text="")
        self.assert_gives(["-"], answers, text="names")
        found = answers("names")
        found.append("done")
        self.assertEqual(answers("names"), ["-"])

    def check(self, told):
        """Lines with their answers: each stands behind the line that it answers."""
        pairs = [line.strip().split(" = ") for line in told.strip().splitlines()]
        self.assert_gives([answer for line, answer in pairs], answers, text="\n".join(line for line, answer in pairs))

    def test_each_request(self):
        self.check("""
            names = -
            turns fair a 1; b 2; a 1 = done
            turns even a 1; b 1; a 1; b 1 = done
            turns none - = done
            names = even fair none
            runs fair = a 1; b 2; a 1
            runs none = -
            size fair = 4
            size none = 0
            list a = none
            like a oak > fig > yew > ash = done
            list a = oak > fig > yew > ash
            list b = none
            like b fig > oak > yew > ash = done
            list b = fig > oak > yew > ash
            never even fair = yes
            never fair even = no
            tops 4 = even
            tops 0 = none
            tops 7 = -
            shares fair = ash+oak fig+yew
            taken fair = oak > fig > yew > ash
            best fair = ash+oak
            well fair = ash+oak fig+yew
            chance fair ash = 1/3
            chance fair oak = 1/1
            exchange fair 3 = done
            runs fair = a 1; b 1; a 1; b 1
            tops 4 = even fair
            add fair 5 b 2 = done
            runs fair = a 1; b 1; a 1; b 3
            remove fair 2 3 = done
            runs fair = a 1; b 2
            rename fair new = done
            drop even = done
            names = new none
            undo = done
            names = even new none
            undo = done
            names = even fair none
        """)

    def test_each_refusal(self):
        self.check("""
            undo = refused NothingDone
            drop fig = refused NoTurns
            rename fig fig = refused NoTurns
            add fig 0 a 1 = refused NoTurns
            remove fig 0 1 = refused NoTurns
            exchange fig 0 = refused NoTurns
            runs fig = refused NoTurns
            size fig = refused NoTurns
            never fig ash = refused NoTurns
            shares fig = refused NoTurns
            taken fig = refused NoTurns
            best fig = refused NoTurns
            well fig = refused NoTurns
            chance fig x = refused NoTurns
            undo = refused NothingDone
            turns fig a 1; b 1 = done
            turns fig a 1 = refused Known
            never fig ash = refused NoTurns
            never ash fig = refused NoTurns
            shares fig = refused OtherThings
            taken fig = refused OtherThings
            best fig = refused OtherThings
            well fig = refused OtherThings
            chance fig x = refused OtherThings
            like b y > x = done
            shares fig = refused OtherThings
            taken fig = refused OtherThings
            best fig = refused OtherThings
            well fig = refused OtherThings
            chance fig x = refused OtherThings
            like a x = done
            chance fig x = refused OtherThings
            shares fig = refused OtherThings
            taken fig = refused OtherThings
            best fig = refused OtherThings
            well fig = refused OtherThings
            like a x > z = done
            shares fig = refused OtherThings
            best fig = refused OtherThings
            chance fig y = refused NoThing
            chance fig x = 1/1
            add fig 0 a 1 = refused NoPlace
            add fig 4 a 1 = refused NoPlace
            remove fig 0 1 = refused NoPlace
            remove fig 2 2 = refused NoPlace
            exchange fig 0 = refused NoPlace
            exchange fig 2 = refused NoPlace
            turns ash a 3 = done
            never fig ash = refused OtherThings
            rename fig ash = refused Known
            rename fig fig = refused Known
            undo = done
            undo = done
            list a = x
            undo = done
            list a = none
            undo = done
            undo = done
            undo = refused NothingDone
        """)

    def test_great_numbers(self):
        many = "1" + "0" * 30
        self.check(f"""
            turns fig a {many}; b 1 = done
            add fig 2 b {many} = done
            runs fig = a 1; b {many}; a {GREAT - 1}; b 1
            size fig = {2 * GREAT + 1}
            exchange fig {2 * GREAT + 1} = refused NoPlace
            exchange fig {2 * GREAT} = done
            runs fig = a 1; b {many}; a {GREAT - 2}; b 1; a 1
            remove fig 2 {2 * GREAT - 1} = done
            runs fig = a 2
            tops {"9" * 40} = -
            like a x > y = done
            chance fig x = 1/1
            turns ash b {many} = done
            shares ash = refused OtherThings
            taken ash = refused OtherThings
            best ash = refused OtherThings
            well ash = refused OtherThings
            chance ash x = refused OtherThings
        """)
        self.assertEqual(turns_of("aa").text, "a 2")

    def test_twelve_things(self):
        order = " > ".join(NAMES)
        self.check(f"""
            turns fig a 1; b 2; a 2; b 2; a 2; b 2; a 1 = done
            like a {order} = done
            like b {order} = done
            taken fig = {order}
            size fig = 12
            best fig = {set_text(plain_share("abbaabbaabba", NAMES, NAMES))}
            chance fig fig = 1/1
        """)


if __name__ == "__main__":
    unittest.main()
