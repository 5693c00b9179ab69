"""Ways of calling that every function must bear: lists for tuples, names, the same again."""

import copy
import unittest

from heirturns.turns import Turns


def listed(value):
    """The value with lists for tuples at any depth."""
    return [listed(part) for part in value] if isinstance(value, (tuple, list)) else value


def shape(value):
    """The value with the kinds of its parts, so that lists and tuples are unlike."""
    if isinstance(value, (tuple, list)):
        return [type(value).__name__] + [shape(part) for part in value]
    if isinstance(value, Turns):
        return ["Turns", value.runs]
    return [type(value).__name__, value]


def nested(depth):
    """A tuple nested so deep."""
    thing = ()
    for _ in range(depth - 1):
        thing = (thing,)
    return thing


class Calls(unittest.TestCase):
    def assert_raises(self, error, values, call, *told, **named):
        with self.assertRaises(error, msg=(told, named)) as caught:
            call(*told, **named)
        self.assertIs(type(caught.exception), error)
        self.assertEqual(vars(caught.exception), values)

    def assert_gives(self, expected, call, **named):
        """The call gives this value, by names, by position, with lists, and again."""
        with_lists = {name: value if name == "thing" else listed(value) for name, value in named.items()}
        stayed = copy.deepcopy((named, with_lists))
        results = [call(**named), call(*named.values()), call(**with_lists), call(*with_lists.values()), call(**named)]
        for result in results:
            self.assertEqual(shape(result), shape(expected), named)
        self.assertEqual((named, with_lists), stayed)
        if isinstance(expected, list):
            self.assertEqual(len({id(result) for result in results}), len(results))

    def assert_refuses(self, error, values, call, **named):
        """The call raises this error, by names, by position and with lists, and changes nothing."""
        with_lists = {name: value if name == "thing" else listed(value) for name, value in named.items()}
        stayed = copy.deepcopy((named, with_lists))
        self.assert_raises(error, values, call, **named)
        self.assert_raises(error, values, call, *named.values())
        self.assert_raises(error, values, call, **with_lists)
        self.assertEqual((named, with_lists), stayed)

    def assert_no_setters(self, thing, names):
        """None of these properties can be set."""
        for name in names:
            with self.assertRaises(AttributeError, msg=name):
                setattr(thing, name, getattr(thing, name))

    def assert_no_iteration(self, thing):
        for call in (iter, list, tuple, sorted):
            with self.assertRaises(TypeError):
                call(thing)

    def assert_unlike(self, thing, others):
        """The thing is equal to itself and to none of the others, by == and by !=."""
        self.assertIs(thing == thing, True)
        self.assertIs(thing != thing, False)
        for other in others:
            self.assertIs(thing == other, False, other)
            self.assertIs(thing != other, True, other)
            self.assertIs(other == thing, False, other)
            self.assertIs(other != thing, True, other)

    def assert_like(self, one, other):
        self.assertIs(one == other, True)
        self.assertIs(one != other, False)
        self.assertIs(other == one, True)
