"""Which values have a schema."""

import copy
import random
import unittest

from samples import plain_document, random_schema, random_value, values_of
from soonknown.schemas import fits, is_schema

FLAG = ("flag",)
DIGIT = ("integer", 0, 9)
COUNTED = ("record", (("n", ("integer", 0, 3), True), ("x", ("sized", FLAG, "n"), True)))
TWICE = ("record", (("a", ("integer", 0, 1), True), ("b", ("repeat", "a"), True), ("c", ("repeat", "a"), False)))
TAGGED = ("either", (
    ("record", (("a", DIGIT, True), ("t", ("just", "x"), True))),
    ("record", (("a", FLAG, True), ("t", ("just", "y"), True))),
    ("list", (("just", 1),), FLAG, 1, 3), ("integer", 3, 5)))

# A schema, values that have it, and values that do not.
CASES = [
    (("integer", -2, 3), [-2, 0, 1, 3], [-3, 4, True, False, "", "0", [], [1], {}, 10 ** 9]),
    (("integer", 0, 1), [0, 1], [True, False, -1, 2]),
    (("integer", -10 ** 9, 10 ** 9), [-10 ** 9, 10 ** 9], [10 ** 9 + 1, -10 ** 9 - 1]),
    (FLAG, [True, False], [0, 1, "true", "", [], {}]),
    (("choice", ("", "a", "bc")), ["", "a", "bc"], ["b", "ab", "abc", 0, True, [], ["a"], {}, {"a": 1}]),
    (("text", "a", "bc", 1, 3), ["a", "ab", "acb", "abb"],
     ["", "b", "ba", "aa", "abcb", "aba", "A", 1, False, ["a"], {}]),
    (("text", "", "z", 0, 2), ["", "z", "zz"], ["zzz", "a", "za", "az"]),
    (("text", "aa", "b", 3, 3), ["aab"], ["aa", "aaa", "abb", "aabb", "baa"]),
    (("text", "ab", "c", 2, 2), ["ab"], ["a", "abc", "cc", "ac", "bc"]),
    (("just", 1), [1], [True, 0, -1, "a", [1], {}]),
    (("just", True), [True], [1, False, 0]),
    (("just", ""), [""], ["a", [], {}, 0, False]),
    (("just", [1, True]), [[1, True]], [[1, 1], [True, True], [1], [1, True, 1], [True, 1], []]),
    (("just", {"a": 1, "b": {}}), [{"b": {}, "a": 1}], [{"a": 1}, {"a": True, "b": {}}, {"a": 1, "b": []}, {}]),
    (("list", (), FLAG, 0, 2), [[], [True], [False, True]], [[True] * 3, [0], [True, 1], True, {}, "", 0]),
    (("list", (), FLAG, 2, 2), [[True, True]], [[], [True], [True] * 3]),
    (("list", (DIGIT, ("just", "a")), FLAG, 2, 4),
     [[0, "a"], [9, "a", True], [5, "a", True, False]],
     [[0], [], ["a", 0], [10, "a"], [0, "b"], [0, "a", "a"], [0, "a", True, 5], [0, "a", 0], [0, "a"] + [True] * 3]),
    (("list", (DIGIT,), FLAG, 1, 1), [[0]], [[True], [0, True], []]),
    (("list", (), FLAG, 0, 0), [[]], [[True], {}]),
    (("record", ()), [{}], [{"a": 1}, [], "", 0]),
    (("record", (("a", FLAG, True), ("b", DIGIT, False))),
     [{"a": True}, {"b": 0, "a": False}],
     [{}, {"b": 1}, {"a": 1}, {"a": True, "b": True}, {"a": True, "c": 1}, {"a": True, "b": 1, "c": 1}, [], [True]]),
    (COUNTED, [{"n": 0, "x": []}, {"n": 1, "x": [True]}, {"x": [False] * 3, "n": 3}],
     [{"n": 0}, {"x": []}, {"n": 1, "x": []}, {"n": 1, "x": [True] * 2}, {"n": 1, "x": [1]}, {"n": 4, "x": [True] * 4},
      {"n": True, "x": [True]}, {"n": "a", "x": [True]}, {"n": [True], "x": [True]}, {"n": {}, "x": [True]},
      {"n": 1, "x": True}, {"n": 1, "x": {"a": True}}, {"n": 1, "x": 1}, {"n": "b", "x": []}]),
    (("record", (("n", ("just", 2), True), ("x", ("sized", DIGIT, "n"), False))),
     [{"n": 2}, {"n": 2, "x": [1, 2]}],
     [{"n": 2, "x": [1]}, {"n": 1, "x": [1]}, {"x": [1, 2]}, {"n": 2, "x": [1, True]}]),
    (TWICE, [{"a": 0, "b": 0}, {"a": 1, "b": 1, "c": 1}],
     [{"a": 0, "b": 1}, {"a": 0}, {"b": 0}, {"b": 0, "c": 0}, {"a": 1, "b": True}, {"a": True, "b": True},
      {"a": 1, "b": 1, "c": True}, {"a": 1, "b": 1, "c": 0}, {"a": 2, "b": 2}, {"a": 1, "b": [1]}]),
    (("record", (("a", ("choice", ("x", "y")), True), ("b", ("repeat", "a"), False))),
     [{"a": "x"}, {"a": "y", "b": "y"}], [{"a": "x", "b": "y"}, {"a": "z", "b": "z"}]),
    (("record", (("a", FLAG, True), ("b", ("repeat", "a"), True))), [{"a": True, "b": True}], [{"a": True, "b": 1}]),
    (TAGGED, [{"a": 1, "t": "x"}, {"a": True, "t": "y"}, [1], [1, True], 3, 5],
     [{"a": True, "t": "x"}, {"a": 1, "t": "y"}, {"a": 1}, [True], [1, 1], [], 2, 6, True, "x"]),
    (("list", (), TAGGED, 0, 2), [[3, [1]], [{"t": "x", "a": 0}]], [[3, 2], [[]], [{"a": 0, "t": "z"}]]),
]


class Fits(unittest.TestCase):
    def test_cases(self):
        for schema, having, other in CASES:
            self.assertTrue(is_schema(schema), schema)
            for values, expected in ((having, True), (other, False)):
                for value in values:
                    with self.subTest(schema=schema, value=value):
                        self.assertIs(fits(schema, value), expected)
                        self.assertIs(fits(("list", (schema,), DIGIT, 1, 1), [value]), expected)
                        self.assertIs(fits(("record", (("a", schema, False),)), {"a": value}), expected)

    def test_exactly_the_values_of_a_schema(self):
        chance = random.Random(7)
        for _ in range(400):
            schema = random_schema(chance, 3)
            if not is_schema(schema):
                continue
            values = values_of(schema)
            documents = {plain_document(value) for value in values}
            sample = chance.sample(values, min(len(values), 30))
            for value in sample:
                self.assertIs(fits(schema, value), True, (schema, value))
            others = [self.changed(chance, value) for value in sample]
            for value in others + [random_value(chance, 2) for _ in range(5)]:
                self.assertIs(fits(schema, value), plain_document(value) in documents, (schema, value))

    def changed(self, chance, value):
        """A value that differs from another one in one part."""
        if isinstance(value, list) and value and chance.random() < 0.8:
            at = chance.randrange(len(value))
            part = self.changed(chance, value[at])
            before, behind = value[:at], value[at + 1:]
            return chance.choice([before + [part] + behind, before + behind, value + [value[at]]])
        if isinstance(value, dict) and value and chance.random() < 0.8:
            name = chance.choice(sorted(value))
            less = {other: part for other, part in value.items() if other != name}
            return chance.choice([{**value, name: self.changed(chance, value[name])}, less, {**value, "d": 1}])
        if isinstance(value, int):
            return chance.choice([value + 1, value - 1, bool(value), int(value), "a"])
        if isinstance(value, str):
            return chance.choice([value + "a", value + "b", value[1:], value[:-1], "b" + value, 0, [value]])
        return chance.choice([[], {}, 0, 1, True, [0], {"a": 1}, "a"])

    def test_deep_values_do_not_take_long(self):
        schema, value = FLAG, True
        for _ in range(5):
            schema, value = ("list", (), schema, 8, 8), [value] * 8
        self.assertIs(fits(schema, value), True)
        value[7] = copy.deepcopy(value[7])
        value[7][7][7][7][7] = 1
        self.assertIs(fits(schema, value), False)

    def test_tags_behind_deep_members_do_not_take_long(self):
        schema, value = FLAG, True
        for _ in range(5):
            schema = ("either", tuple(self.tagged(schema, tag) for tag in "vwxyz"))
            value = {**dict.fromkeys("abcdefg", value), "t": "z"}
        self.assertIs(fits(schema, value), True)
        self.assertIs(fits(schema, {**value, "t": "u"}), False)

    def tagged(self, schema, tag):
        return ("record", tuple((name, schema, True) for name in "abcdefg") + (("t", ("just", tag), True),))

    def test_somewhat_beyond_the_limits(self):
        self.assertIs(fits(("list", (), FLAG, 0, 8), [True] * 9), False)
        self.assertIs(fits(("text", "", "a", 0, 12), "a" * 13), False)
        self.assertIs(fits(("integer", 0, 10 ** 9), 10 ** 9 + 1), False)
        self.assertIs(fits(("record", ()), {"a" * 9: 1}), False)

    def test_arguments(self):
        value = {"n": 1, "x": [True]}
        schema, before = copy.deepcopy(COUNTED), copy.deepcopy(value)
        self.assertIs(fits(schema=schema, value=value), True)
        self.assertEqual((schema, value), (COUNTED, before))


if __name__ == "__main__":
    unittest.main()
