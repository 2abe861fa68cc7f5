"""Points [2] to [4]: what a value is, its document, when two values are the same."""

import copy
import random
import unittest

from samples import depth_of, is_plain_value, plain_document, random_value
from soonknown.values import document, is_value, read_document, same


def nested(depth, inside=1):
    """A list with this depth around a value of depth 1."""
    for _ in range(depth - 1):
        inside = [inside]
    return inside


def names(many):
    return ["abcdefghij"[at] for at in range(many)]


GOOD = [
    0, 1, -1, 10 ** 9, -10 ** 9, True, False, "", "a", "z", "az", "a" * 8, "a" * 9, "a" * 12, [], {}, [[]], [{}],
    [0] * 8, [True, 1, "a", [], {}], {"a": 1}, {"a" * 8: 1}, {"z": 1, "a": 2}, dict.fromkeys(names(8), 0),
    nested(6), nested(6, "a" * 12), nested(6, []), nested(6, {}), {"a": nested(5)}, [1, nested(5)],
    {"a": {"a": {"a": {"a": {"a": True}}}}}, {"a": {"a": {"a": {"a": {"a": {}}}}}},
]
BAD = [
    10 ** 9 + 1, -10 ** 9 - 1, 10 ** 40, None, "a" * 13, "aB", "A", " ", "a b", "a1", "a_b", "a-b", "\n", "a\n", "é",
    "ß", "ª", "\ud800", "`", "{", '"', "\\", (), (1,), ("a",), [0] * 9, [None], [()], [[None]], [10 ** 9 + 1],
    ["a" * 13], dict.fromkeys(names(9), 0), {"": 1}, {"a" * 9: 1}, {"a" * 12: 1}, {"a" * 13: 1},
    {"A": 1}, {"a ": 1}, {1: 1}, {None: 1}, {True: 1},
    {("a",): 1}, {"a": None}, {"a": ()}, {"a": 1, "b": {"c": None}}, nested(7), nested(7, []), nested(7, {}),
    {"a": nested(6)}, {"a": {"a": {"a": {"a": {"a": {"a": 1}}}}}}, nested(40), nested(3, (1, 2)), [1, nested(6)],
]


class IsValue(unittest.TestCase):
    def test_values(self):
        for value in GOOD:
            with self.subTest(value=value):
                self.assertIs(is_value(value), True)
                self.assertIs(is_value([value]), depth_of(value) < 6)
                self.assertIs(is_value({"a": value}), depth_of(value) < 6)

    def test_other_things(self):
        for thing in BAD:
            with self.subTest(thing=thing):
                self.assertIs(is_value(thing), False)
                self.assertIs(is_value([thing]), False)
                self.assertIs(is_value({"a": thing}), False)

    def test_every_letter_and_no_other_sign(self):
        for code in [*range(0, 0x250), 0x3b1, 0x1d41a, 0xff41, 0x10ffff]:
            letter = chr(code) in "abcdefghijklmnopqrstuvwxyz"
            self.assertIs(is_value(chr(code)), letter)
            self.assertIs(is_value("ab" + chr(code)), letter)
            self.assertIs(is_value({chr(code): 1}), letter)

    def test_wide_and_deep_things(self):
        self.assertIs(is_value([0] * 100000), False)
        self.assertIs(is_value(dict.fromkeys(range(100000))), False)
        self.assertIs(is_value("a" * 100000), False)
        shared = []
        for _ in range(39):
            shared = [shared] * 8
        self.assertIs(is_value(shared), False)
        for _ in range(39):
            shared = (shared, shared)
        self.assertIs(is_value(shared), False)
        shared = True
        for _ in range(5):
            shared = [shared] * 8
        self.assertIs(is_value(shared), True)
        self.assertIs(is_value([shared]), False)

    def test_random_values(self):
        chance = random.Random(1)
        for _ in range(300):
            value = random_value(chance, chance.randint(1, 8))
            expected = is_plain_value(value) and depth_of(value) <= 6
            self.assertIs(is_value(value), expected, value)

    def test_argument_by_name(self):
        self.assertIs(is_value(thing=[1]), True)


class Documents(unittest.TestCase):
    def test_each_kind(self):
        expected = [
            (0, "0"), (-0, "0"), (10, "10"), (-7, "-7"), (10 ** 9, "1000000000"), (-10 ** 9, "-1000000000"),
            (True, "true"), (False, "false"), ("", '""'), ("ab", '"ab"'), ([], "[]"), ([1, True, "a"], '[1,true,"a"]'),
            ({}, "{}"), ({"b": 1, "a": 2}, '{"a":2,"b":1}'), ({"b": 1, "ab": 2, "a": 3}, '{"a":3,"ab":2,"b":1}'),
            ([[], [{}]], "[[],[{}]]"), ({"a": {"z": [1], "b": ""}}, '{"a":{"b":"","z":[1]}}'),
        ]
        for value, text in expected:
            with self.subTest(value=value):
                self.assertEqual(document(value), text)

    def test_like_json(self):
        chance = random.Random(2)
        for value in GOOD + [random_value(chance, 6) for _ in range(200)]:
            self.assertEqual(document(value=value), plain_document(value))

    def test_somewhat_beyond_the_limits(self):
        self.assertEqual(document([10 ** 9 + 1] * 9), "[" + ",".join(["1000000001"] * 9) + "]")
        self.assertEqual(document({"a" * 9: "b" * 13}), '{"aaaaaaaaa":"bbbbbbbbbbbbb"}')
        self.assertEqual(document(nested(8)), "[[[[[[[1]]]]]]]")

    def test_arguments_are_not_changed(self):
        value = {"b": [1, {"d": 1, "c": 2}], "a": {}}
        before = copy.deepcopy(value)
        document(value)
        is_value(value)
        same(value, value)
        self.assertEqual(value, before)
        self.assertEqual([list(value), list(value["b"][1])], [["b", "a"], ["d", "c"]])


class Same(unittest.TestCase):
    def test_one_is_not_true(self):
        for first, second in [(1, True), (0, False), ([1], [True]), ([[0]], [[False]]), ({"a": 1}, {"a": True}),
                              ({"a": [0]}, {"a": [False]}), ("", []), ([], {}), ("true", True), ("a", "b"),
                              ("a", "aa"), (0, ""), (False, ""), ({}, {"a": 1}), ([1, 2], [2, 1]), (1, "a")]:
            with self.subTest(first=first, second=second):
                self.assertIs(same(first, second), False)
                self.assertIs(same(second, first), False)

    def test_order_of_names_does_not_matter(self):
        self.assertIs(same({"a": 1, "b": 2}, {"b": 2, "a": 1}), True)
        self.assertIs(same([{"a": 1, "b": 2}], [{"b": 2, "a": 1}]), True)
        self.assertIs(same({"a": 1, "b": 2}, {"b": 1, "a": 2}), False)

    def test_all_pairs(self):
        for at, first in enumerate(GOOD):
            for other, second in enumerate(GOOD):
                self.assertIs(same(first=first, second=copy.deepcopy(second)), at == other, (first, second))


class Round(unittest.TestCase):
    def test_documents_are_read_as_their_values(self):
        for value in GOOD:
            self.assertTrue(same(read_document(document(value)), value), value)


if __name__ == "__main__":
    unittest.main()
