import ast
import importlib
import inspect
import unittest

# What DOC.md's interface lists: for each file its functions, and for each class
# its methods, with their parameters; a class value of None is a property.
FUNCTIONS = {
    "turns": {
        "is_runs": "thing",
        "ahead": "turns number",
        "turn_of": "turns which",
        "his_turn_of": "turns which",
        "first_part": "turns number",
        "rest_of": "turns number",
        "backwards": "turns",
        "swapped": "turns",
        "heirs": "turns",
        "turns_of": "heirs_told",
        "exchanged": "turns place",
        "handed": "turns place",
        "check_size": "one other",
        "corners": "one other",
    },
    "picks": {
        "is_list": "thing",
        "is_share": "order thing",
        "taken": "turns hers his",
        "shares": "turns hers his",
        "story": "turns hers his",
        "left_behind": "turns hers his number",
        "by_list": "order share",
        "places_on": "order share",
        "kth_best": "order share number",
    },
    "lead": {
        "never_worse": "one other",
        "against": "one other",
        "is_against": "one other thing",
        "most_worse": "one other",
        "compare": "one other",
        "worse_at": "one other hers his",
        "after": "turns steps",
        "is_steps": "one other thing",
        "steps": "one other",
        "fewest_steps": "one other",
    },
    "shares": {
        "come_against": "turns hers share",
        "can_come": "turns hers share",
        "his_list": "turns hers share",
        "is_his_list": "turns hers share thing",
        "all_shares": "turns hers",
        "nth_share": "turns hers number",
        "number_of_share": "turns hers share",
        "how_many_shares": "turns",
        "sure_things": "turns hers",
        "possible_things": "turns hers",
        "worst_of": "turns hers which",
    },
    "takes": {
        "take_against": "turns his share",
        "can_take": "turns his share",
        "lost_at": "turns his order",
        "order_for": "turns his share",
        "is_order_for": "turns his share thing",
        "how_many_orders": "turns his share",
        "all_takes": "turns his",
        "nth_take": "turns his number",
        "number_of_take": "turns his share",
        "how_many_takes": "turns",
        "always_taken": "turns his",
        "ever_taken": "turns his",
    },
    "best": {
        "best_share": "turns hers his",
        "best_order": "turns hers his",
        "is_best_share": "turns hers his share",
        "plain_is_best": "turns hers his",
        "worse_places": "turns hers his",
    },
    "known": {
        "played": "turns hers his",
        "played_shares": "turns hers his",
        "shares_behind": "turns hers his name",
        "good_takings": "turns hers his",
        "gains": "turns hers his",
    },
    "lattice": {
        "is_above": "one other",
        "above_both": "one other",
        "below_both": "one other",
        "is_between": "one other third",
        "height": "turns",
        "next_above": "turns",
        "next_below": "turns",
        "best_turns": "hers his",
        "worst_turns": "hers his",
        "how_many_turns": "hers his",
        "how_many_between": "one other",
        "nth_between": "one other number",
        "number_of_between": "one other third",
    },
    "fair": {
        "lead": "turns",
        "lag": "turns",
        "spread": "turns",
        "never_behind": "turns",
        "behind_at": "turns",
        "most_gain": "turns top",
        "most_apart": "turns",
        "place_sums": "turns",
        "how_many_within": "size most",
        "nth_within": "size most number",
        "number_of_within": "turns most",
    },
    "hidden": {
        "looks_of": "turns things taken",
        "surveyed": "things asker",
    },
    "changes": {
        "list_exchanged": "things place",
        "thing_put": "things place name",
        "thing_left_out": "things name",
        "share_change": "before after",
        "by_lists": "turns hers his who place",
        "by_turns": "turns hers his place",
        "list_places": "turns hers his who",
        "turn_places": "turns hers his",
        "with_thing": "turns hers his heir name place other",
    },
    "many": {
        "is_row": "thing",
        "is_lists": "thing",
        "picked": "row lists",
        "share_of": "row lists heir",
        "as_one": "row lists one other",
        "can_come_among": "row hers heir share",
        "lists_for": "row hers heir share",
        "order_among": "row lists heir share",
        "can_take_among": "row lists heir share",
        "is_order_among": "row lists heir thing",
    },
    "ranks": {},
    "chances": {
        "chance_of_share": "turns hers share",
        "chance_of": "turns hers name",
        "all_chances": "turns hers",
        "expected_places": "turns hers",
        "likeliest_share": "turns hers",
    },
    "prices": {
        "is_prices": "thing",
        "worth": "prices share",
        "keeps": "prices order",
        "most_taken_share": "turns his prices",
        "most_taken": "turns his prices",
        "least_come": "turns hers prices",
        "most_come": "turns hers prices",
        "prices_against": "order one other",
        "never_worth_less": "order one other",
        "is_prices_against": "order one other thing",
        "least_come_share": "turns hers prices",
        "most_come_share": "turns hers prices",
    },
    "board": {},
    "desk": {"answers": "text"},
    "texts": {
        "runs_text": "runs",
        "list_text": "likes",
        "share_text": "share",
        "runs_from": "text",
        "list_from": "text",
        "share_from": "text",
    },
}
CLASSES = {
    "errors": {
        "HeirError": {},
        "BadLine": {"__init__": "self number"},
        "BadRun": {"__init__": "self place"},
        "BadText": {"__init__": "self piece"},
        "Known": {"__init__": "self name"},
        "NoHeir": {"__init__": "self name"},
        "NoList": {},
        "NoNumber": {"__init__": "self number"},
        "NoPlace": {"__init__": "self number"},
        "NoThing": {"__init__": "self name"},
        "NoTurns": {"__init__": "self name"},
        "NothingDone": {},
        "OtherThings": {},
    },
    "turns": {
        "Turns": {
            "__init__": "self runs",
            "of": "text",
            "runs": None,
            "size": None,
            "hers": None,
            "his": None,
            "ends": None,
            "text": None,
            "__len__": "self",
            "__getitem__": "self at",
            "__iter__": "self",
            "__add__": "self other",
            "__eq__": "self other",
        },
    },
    "hidden": {
        "Hidden": {
            "__init__": "self things",
            "things": None,
            "looks": None,
            "pairs": None,
            "ask": None,
            "tell": "self left took",
            "back": "self",
            "twin": "self",
            "how_many": "self",
            "nth_list": "self number",
            "fits": "self order",
            "known": "self one other",
            "may_take": "self left",
            "sure_take": "self left",
            "__len__": "self",
            "__eq__": "self other",
        },
    },
    "changes": {
        "Watch": {
            "__init__": "self turns hers his",
            "turns": None,
            "hers": None,
            "his": None,
            "share": None,
            "told": None,
            "exchange_list": "self who place",
            "exchange_turns": "self place",
            "add": "self heir name place other",
            "back": "self",
            "twin": "self",
            "__len__": "self",
            "__eq__": "self other",
        },
    },
    "ranks": {
        "Table": {
            "__init__": "self rows",
            "names": None,
            "is_never_worse": "self name other",
            "all_pairs": "self",
            "below": "self name",
            "above": "self name",
            "next_below": "self name",
            "next_above": "self name",
            "ties": "self",
            "chain": "self",
            "apart": "self",
            "layers": "self",
            "bound_above": "self names",
            "bound_below": "self names",
            "__len__": "self",
            "__contains__": "self name",
            "__getitem__": "self name",
            "__iter__": "self",
            "__eq__": "self other",
        },
    },
    "board": {
        "Board": {
            "__init__": "self",
            "names": None,
            "hers": None,
            "his": None,
            "deeds": None,
            "put": "self name turns",
            "drop": "self name",
            "rename": "self name new",
            "add": "self name place heir number",
            "remove": "self name place number",
            "exchange": "self name place",
            "like": "self heir likes",
            "undo": "self",
            "twin": "self",
            "shares": "self name",
            "never_worse": "self name to",
            "best_for_her": "self number",
            "__len__": "self",
            "__contains__": "self name",
            "__getitem__": "self name",
            "__iter__": "self",
            "__eq__": "self other",
        },
    },
}


def module(name):
    return importlib.import_module("heirturns." + name)


def defined_in(found):
    """The names that the file itself defines by def or class."""
    with open(found.__file__, encoding="utf-8") as file:
        body = ast.parse(file.read()).body
    return {own.name: own for own in body if isinstance(own, (ast.FunctionDef, ast.ClassDef))}


def parameters(function):
    return " ".join(inspect.signature(function).parameters)


class InterfaceTest(unittest.TestCase):
    def test_functions_stand_in_their_files(self):
        for name, functions in FUNCTIONS.items():
            own = defined_in(module(name))
            for function, told in functions.items():
                self.assertIsInstance(own.get(function), ast.FunctionDef, function)
                self.assertEqual(parameters(getattr(module(name), function)), told, function)

    def test_classes_stand_in_their_files_with_their_methods(self):
        for name, classes in CLASSES.items():
            own = defined_in(module(name))
            for class_name, methods in classes.items():
                self.assertIsInstance(own.get(class_name), ast.ClassDef, class_name)
                held = vars(getattr(module(name), class_name))
                for method, told in methods.items():
                    self.assertIn(method, held, class_name)
                    if told is None:
                        self.assertIsInstance(held[method], property)
                        self.assertIsNone(held[method].fset)
                    else:
                        function = getattr(held[method], "__func__", held[method])
                        self.assertEqual(parameters(function), told, method)

    def test_everything_that_the_document_lists(self):
        """All files, and in all of them as many functions and classes as the document lists."""
        self.assertEqual(sorted({*FUNCTIONS, *CLASSES}), sorted(
            "errors turns picks lead shares takes best known lattice fair hidden changes many ranks chances prices"
            " texts board desk".split()))
        self.assertEqual(sum(len(functions) for functions in FUNCTIONS.values()), 135)
        self.assertEqual(sum(len(classes) for classes in CLASSES.values()), 18)

    def test_runs_may_be_left_out(self):
        self.assertEqual(inspect.signature(module("turns").Turns).parameters["runs"].default, ())


if __name__ == "__main__":
    unittest.main()
