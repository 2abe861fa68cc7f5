"""Points [5] and [6]: what a schema is, and its depth."""

import copy
import random
import unittest

from samples import random_schema, random_value
from soonknown.schemas import is_schema

FLAG = ("flag",)
TOP = 10 ** 9
WORDS = tuple("abcdefghijklm")
ALPHABET = "abcdefghijklmnopqrstuvwxyz"
FOREIGN = [None, True, False, 0, 1, -1, "", "a", "A", "flag", "integer", (), ("a",), [], ["flag"], [1], {}, {"a": 1},
           (None,), ((),), (("flag",),), ("Flag",), ("flags",), (1,), (True,), (("flag",), ("flag",))]


def integer(least, greatest):
    return ("integer", least, greatest)


def record(*members):
    return ("record", members)


def nested(depth, schema=FLAG):
    """A list schema with this depth around a schema of depth 1."""
    for _ in range(depth - 1):
        schema = ("list", (), schema, 0, 1)
    return schema


def members(many):
    return tuple((name, FLAG, True) for name in WORDS[:many])


PLAIN_GOOD = [
    integer(0, 0), integer(-TOP, TOP), integer(TOP, TOP), integer(-TOP, -TOP), integer(-1, 1), FLAG,
    ("choice", ("",)), ("choice", ("a",)), ("choice", ("", "a")), ("choice", ("a", "aa", "b")),
    ("choice", WORDS[:12]), ("choice", ("a" * 12,)), ("text", "", "a", 0, 0), ("text", "", ALPHABET, 0, 12),
    ("text", "ab", "a", 2, 2), ("text", "a" * 12, "b", 12, 12), ("text", "", "z", 12, 12), ("text", "abc", "bc", 4, 5),
    ("just", 0), ("just", TOP), ("just", -TOP), ("just", True), ("just", ""), ("just", "a" * 12), ("just", []),
    ("just", {}),
]
PLAIN_BAD = [
    integer(1, 0), integer(-TOP - 1, 0), integer(0, TOP + 1), integer(TOP + 1, TOP + 1), integer(True, 1),
    integer(0, True), integer(False, True), integer("0", 1), integer(0, None), ("integer",), ("integer", 0),
    ("integer", 0, 1, 2), ("flag", 1), ("flag", FLAG), ("flag", True), ("choice",), ("choice", ()),
    ("choice", WORDS[:13]), ("choice", ("a" * 13,)), ("choice", ("b", "a")), ("choice", ("a", "a")),
    ("choice", ("a", "")), ("choice", ["a"]), ("choice", "a"), ("choice", "abc"), ("choice", ("A",)),
    ("choice", ("a", 1)), ("choice", (1,)), ("choice", (True,)), ("choice", (None,)), ("choice", (("a",),)),
    ("choice", ("a b",)), ("choice", ("a\n",)), ("choice", ("\u00e9",)), ("choice", ("a",), ("b",)),
    ("choice", {"a": 1}), ("text",), ("text", "", "a", 0), ("text", "", "a", 0, 1, 2), ("text", "", "", 0, 1),
    ("text", "", "", 0, 0), ("text", "", "ba", 0, 1), ("text", "", "aa", 0, 1), ("text", "", "A", 0, 1),
    ("text", "", ALPHABET + "z", 0, 1), ("text", "", "a1", 0, 1), ("text", "", ("a",), 0, 1), ("text", "", None, 0, 1),
    ("text", "ab", "a", 1, 2), ("text", "a", "a", 0, 0), ("text", "", "a", 2, 1), ("text", "", "a", 0, 13),
    ("text", "", "a", 13, 13), ("text", "", "a", -1, 1), ("text", "a" * 13, "b", 13, 13), ("text", "A", "a", 1, 2),
    ("text", "a" * 13, "b", 12, 12), ("text", None, "a", 0, 1), ("text", 0, "a", 0, 1), ("text", (), "a", 0, 1),
    ("text", "", "a", False, 1), ("text", "", "a", 0, True), ("text", "", "a", "0", "1"), ("text", "", "a", None, 1),
    ("just",), ("just", 1, 2), ("just", None), ("just", TOP + 1), ("just", -TOP - 1), ("just", "A"), ("just", "a" * 13),
    ("just", ()), ("just", (1,)), ("just", FLAG), ("just", [None]), ("just", [0] * 9), ("just", {"": 1}),
    ("just", {"a" * 9: 1}), ("just", {1: 1}), ("repeat", "a"), ("repeat",), ("sized", FLAG, "a"), ("sized",),
    ("either",), ("list",), ("record",),
]
NESTED_GOOD = [
    ("list", (), FLAG, 0, 0), ("list", (), FLAG, 0, 8), ("list", (), FLAG, 8, 8), ("list", (FLAG,), FLAG, 1, 1),
    ("list", (FLAG,) * 8, FLAG, 8, 8), ("list", (integer(0, 1), FLAG), ("just", 1), 2, 5), record(),
    record(*members(8)),
    record(("a", FLAG, False)), record(("a" * 8, FLAG, True)), record(("a", FLAG, True), ("ab", FLAG, False)),
    ("either", (FLAG, integer(0, 1))), ("either", (integer(0, 4), integer(5, 9))),
    ("either", tuple(integer(at, at) for at in range(5))), ("either", (("just", 1), ("just", True))),
    ("either", (FLAG, integer(0, 1), ("choice", ("a",)), ("list", (), FLAG, 0, 1), record())),
    ("list", (("either", (FLAG, integer(0, 1))),), ("either", (FLAG, integer(0, 1))), 1, 2),
    record(("a", ("either", (FLAG, ("list", (), ("either", (FLAG, integer(0, 1))), 0, 1))), True)),
    ("just", [0] * 8), ("just", {"b": [1, True], "a": {"z": ""}}),
]
NESTED_BAD = [
    ("list", (), FLAG, 0), ("list", (), FLAG, 0, 1, 2), ("list", FLAG, 0, 1), ("list", (), FLAG, 1, 0),
    ("list", (), FLAG, 0, 9), ("list", (), FLAG, 9, 9), ("list", (), FLAG, -1, 1), ("list", (FLAG,), FLAG, 0, 1),
    ("list", (FLAG,), FLAG, 0, 0), ("list", (FLAG,) * 9, FLAG, 9, 9), ("list", (FLAG,) * 9, FLAG, 8, 8),
    ("list", [], FLAG, 0, 1), ("list", [FLAG], FLAG, 1, 1), ("list", FLAG, FLAG, 1, 1), ("list", None, FLAG, 0, 1),
    ("list", (), FLAG, False, 1), ("list", (), FLAG, 0, True), ("list", (), None, 0, 0), ("list", (), ["flag"], 0, 0),
    ("list", (None,), FLAG, 1, 1), ("list", (), integer(1, 0), 0, 0), ("list", (), ("repeat", "a"), 0, 1),
    ("list", (), ("sized", FLAG, "a"), 0, 1), ("list", (("repeat", "a"),), FLAG, 1, 1), ("record", []), ("record", {}),
    ("record", None), ("record", (), ()), ("record", members(9)), ("record", [("a", FLAG, True)]),
    ("record", ("a", FLAG, True)), record(["a", FLAG, True]), record(("a", FLAG)), record(("a", FLAG, True, True)),
    record(("a", FLAG, 1)), record(("a", FLAG, 0)), record(("a", FLAG, None)), record(("", FLAG, True)),
    record(("a" * 9, FLAG, True)), record(("A", FLAG, True)), record(("a1", FLAG, True)), record((1, FLAG, True)),
    record((None, FLAG, True)), record((("a",), FLAG, True)), record(("a", None, True)), record(("a", "flag", True)),
    record(("a", FLAG, True), ("a", FLAG, True)), record(("a", FLAG, True), ("a", integer(0, 1), False)),
    record(("b", FLAG, True), ("a", FLAG, True)), record(("ab", FLAG, True), ("a", FLAG, True)),
    record(("a", integer(1, 0), False)), ("either", ()), ("either", (FLAG,)), ("either", [FLAG, integer(0, 1)]),
    ("either", tuple(integer(at, at) for at in range(6))), ("either", (FLAG, FLAG)), ("either", (FLAG, None)),
    ("either", (integer(0, 5), integer(5, 9))), ("either", (FLAG, ("just", True))),
    ("either", (integer(0, 1), FLAG, ("just", 1))), ("either", (("choice", ("a", "b")), ("text", "", "bc", 1, 1))),
    ("either", (FLAG, ("either", (integer(0, 1), integer(2, 3))))), ("either", (("repeat", "a"), FLAG)),
    ("either", (FLAG, ("sized", FLAG, "a"))), ("either", (FLAG, integer(1, 0))), ("either", FLAG, integer(0, 1)),
    ("either", (("list", (), FLAG, 0, 1), ("list", (), integer(0, 1), 0, 1))), ("either", (record(), record())),
    record(("a", FLAG, True), ("b", ("either", (("repeat", "a"), integer(0, 1))), True)),
    record(("a", integer(0, 1), True), ("b", ("list", (), ("sized", FLAG, "a"), 0, 1), True)),
    record(("a", integer(0, 1), True), ("b", ("sized", ("repeat", "a"), "a"), True)),
    record(("a", integer(0, 1), True), ("b", record(("c", ("repeat", "a"), True)), True)),
]
# What a repeat and a sized may name, and what only one or none of them may.
REPEATED_GOOD = [
    FLAG, ("choice", ("a",)), ("choice", WORDS[:12]), integer(0, 0), integer(0, 39), integer(-20, 19),
    integer(TOP - 39, TOP), ("just", 1), ("just", -TOP), ("just", True), ("just", ""), ("just", "a"),
]
REPEATED_BAD = [
    integer(0, 40), integer(-TOP, TOP), ("text", "", "a", 0, 1), ("just", []), ("just", {}), ("just", [1]),
    ("list", (), FLAG, 0, 1), record(), ("either", (FLAG, integer(0, 1))),
]
SIZES_GOOD = [integer(0, 0), integer(0, 8), integer(8, 8), integer(3, 5), ("just", 0), ("just", 8), ("just", 3)]
SIZES_BAD = [
    integer(-1, 3), integer(0, 9), integer(9, 9), integer(-1, -1), ("just", -1), ("just", 9), ("just", True),
    ("just", False), ("just", "a"), ("just", []), FLAG, ("choice", ("a",)), ("text", "", "a", 0, 1), record(),
    ("list", (), FLAG, 0, 1), ("either", (integer(0, 1), integer(2, 3))),
]


class IsSchema(unittest.TestCase):
    def check(self, thing, expected):
        with self.subTest(thing=thing):
            self.assertIs(is_schema(thing), expected)

    def test_schemas(self):
        for schema in PLAIN_GOOD + NESTED_GOOD:
            self.check(schema, True)
            self.check(("list", (schema,), schema, 1, 2), True)
            self.check(record(("a", schema, False), ("b", schema, True)), True)

    def test_other_things(self):
        for thing in PLAIN_BAD + NESTED_BAD + FOREIGN:
            self.check(thing, False)
            self.check(("list", (), thing, 0, 0), False)
            self.check(("list", (FLAG, thing), FLAG, 2, 2), False)
            self.check(record(("a", thing, False)), False)
            self.check(("either", (thing, FLAG)), False)

    def test_lists_are_no_tuples(self):
        for schema in PLAIN_GOOD + NESTED_GOOD:
            self.check(list(schema), False)

    def test_wrong_kinds_in_every_place(self):
        for schema in PLAIN_GOOD + NESTED_GOOD:
            for at in range(len(schema)):
                for wrong in (None, (None,), [None], {"A": None}, "A", "a" * 13, 10 ** 9 + 1, ((),)):
                    if not (schema[0] == "just" and at == 1 and is_schema(("just", wrong))):
                        self.check(schema[:at] + (wrong,) + schema[at + 1:], False)

    def test_argument_by_name(self):
        self.assertIs(is_schema(thing=FLAG), True)


class OtherMembers(unittest.TestCase):
    def check(self, expected, *members):
        for tail in ((), (("z", FLAG, True),)):
            with self.subTest(members=members + tail):
                self.assertIs(is_schema(("record", members + tail)), expected)

    def test_repeat(self):
        for schemas, expected in ((REPEATED_GOOD, True), (REPEATED_BAD, False)):
            for schema in schemas:
                for required in (True, False):
                    self.check(expected, ("a", schema, True), ("b", ("repeat", "a"), required))
                    self.check(expected, ("a", schema, True), ("b", FLAG, False), ("c", ("repeat", "a"), required))
                    self.check(False, ("a", schema, False), ("b", ("repeat", "a"), required))
                    self.check(False, ("a", ("repeat", "b"), required), ("b", schema, True))
                    self.check(False, ("a", schema, True), ("b", ("repeat", "c"), required))

    def test_sized(self):
        for schemas, expected in ((SIZES_GOOD, True), (SIZES_BAD, False)):
            for schema in schemas:
                for required in (True, False):
                    self.check(expected, ("a", schema, True), ("b", ("sized", FLAG, "a"), required))
                    self.check(expected, ("a", schema, True), ("b", FLAG, False), ("c", ("sized", FLAG, "a"), required))
                    self.check(False, ("a", schema, False), ("b", ("sized", FLAG, "a"), required))
                    self.check(False, ("a", ("sized", FLAG, "b"), required), ("b", schema, True))
                    self.check(False, ("a", schema, True), ("b", ("sized", FLAG, "c"), required))

    def test_items_of_a_sized(self):
        for schema in PLAIN_GOOD + NESTED_GOOD:
            self.check(True, ("a", integer(0, 8), True), ("b", ("sized", schema, "a"), True))
        for thing in PLAIN_BAD + NESTED_BAD + [None, "a"]:
            self.check(False, ("a", integer(0, 8), True), ("b", ("sized", thing, "a"), True))

    def test_themselves_and_each_other(self):
        number = ("a", integer(0, 8), True)
        self.check(False, ("a", ("repeat", "a"), True))
        self.check(False, ("a", ("sized", FLAG, "a"), True))
        self.check(False, number, ("b", ("repeat", "a"), True), ("c", ("repeat", "b"), True))
        self.check(False, number, ("b", ("repeat", "a"), True), ("c", ("sized", FLAG, "b"), True))
        self.check(False, number, ("b", ("sized", FLAG, "a"), True), ("c", ("repeat", "b"), True))
        self.check(False, number, ("b", ("sized", FLAG, "a"), True), ("c", ("sized", FLAG, "b"), True))
        self.check(True, number, ("b", ("sized", FLAG, "a"), True), ("c", ("sized", FLAG, "a"), True),
                   ("d", ("repeat", "a"), True), ("e", ("repeat", "a"), False))

    def test_wrong_forms(self):
        number = ("a", integer(0, 8), True)
        for thing in [("repeat",), ("repeat", "a", "a"), ("repeat", None), ("repeat", ["a"]), ("repeat", ("a",)),
                      ("repeat", {"a": 1}), ["repeat", "a"], ("repeat", 0), ("repeat", "A"), ("sized", FLAG),
                      ("sized", "a"), ("sized", FLAG, None), ("sized", FLAG, ["a"]), ("sized", FLAG, ("a",)),
                      ("sized", "a", FLAG), ("sized", FLAG, "a", "a"), ["sized", FLAG, "a"]]:
            self.check(False, number, ("b", thing, True))

    def test_nowhere_else(self):
        for form in (("repeat", "a"), ("sized", FLAG, "a")):
            for inner in (("list", (), form, 0, 1), ("list", (form,), FLAG, 1, 1), ("either", (form, ("just", "x"))),
                          record(("c", form, True)), ("sized", form, "a")):
                self.check(False, ("a", integer(0, 8), True), ("b", inner, True))


class Depth(unittest.TestCase):
    def check(self, depth_six, deeper):
        """A schema of depth 6 is one; with one level more it is not."""
        self.assertIs(is_schema(depth_six), True, depth_six)
        self.assertIs(is_schema(deeper), False, deeper)
        self.assertIs(is_schema(("list", (), depth_six, 0, 0)), False)
        self.assertIs(is_schema(("list", (depth_six,), FLAG, 1, 1)), False)
        self.assertIs(is_schema(record(("a", depth_six, False))), False)
        self.assertIs(is_schema(record(("a", integer(0, 1), True), ("b", ("sized", depth_six, "a"), False))), False)

    def test_each_plain_form(self):
        for schema in PLAIN_GOOD:
            self.check(nested(6, schema), nested(7, schema))

    def test_records(self):
        def records(depth, schema):
            for _ in range(depth - 1):
                schema = record(("a", FLAG, True), ("b", schema, False))
            return schema
        self.check(records(6, FLAG), records(7, FLAG))
        self.check(records(6, record()), records(7, record()))

    def test_repeat_has_depth_one_and_sized_one_more(self):
        repeat = record(("a", FLAG, True), ("b", ("repeat", "a"), True))
        self.check(nested(5, repeat), nested(6, repeat))
        sized = record(("a", integer(0, 8), True), ("b", ("sized", FLAG, "a"), True))
        self.check(nested(4, sized), nested(5, sized))
        deep = record(("a", integer(0, 8), True), ("b", ("sized", nested(4), "a"), True))
        self.check(deep, record(("a", integer(0, 8), True), ("b", ("sized", nested(5), "a"), True)))

    def test_either_has_the_depth_of_its_alternatives(self):
        either = ("either", (integer(0, 1), FLAG))
        self.check(nested(6, either), nested(7, either))
        self.check(("either", (FLAG, nested(6))), ("either", (FLAG, nested(7))))
        self.check(("either", (nested(6), FLAG)), ("either", (nested(7), FLAG)))
        for depth in range(2, 7):
            either = ("either", (FLAG, ("list", (), either, 0, 1)))
            self.assertIs(is_schema(either), depth <= 6)
        self.assertIs(is_schema(("either", (FLAG, ("list", (), either, 0, 1)))), False)

    def test_just_has_the_depth_of_its_value(self):
        def value(depth, inside=1):
            for _ in range(depth - 1):
                inside = [inside]
            return inside
        for depth in range(1, 7):
            for inside in (1, [], {}):
                self.assertIs(is_schema(nested(7 - depth, ("just", value(depth, inside)))), True)
                self.assertIs(is_schema(nested(8 - depth, ("just", value(depth, inside)))), False)
        self.assertIs(is_schema(("just", value(7))), False)

    def test_deepest_part_counts(self):
        self.check(("list", (FLAG, nested(5), FLAG), FLAG, 3, 3), ("list", (FLAG, nested(6), FLAG), FLAG, 3, 3))
        self.check(("list", (), nested(5), 0, 0), ("list", (), nested(6), 0, 0))
        self.check(record(("a", nested(5), True), ("b", FLAG, True)), record(("a", nested(6), True), ("b", FLAG, True)))


class AnyValue(unittest.TestCase):
    def test_wide_and_deep_things(self):
        shared = ()
        for _ in range(39):
            shared = (shared, shared)
        strings = "flag"
        for _ in range(39):
            strings = (strings, strings)
        lists = []
        for _ in range(38):
            lists = [lists] * 8
        for thing in (shared, strings, lists, ("just", lists), ("list", (), shared, 0, 1), ("choice", (strings,)),
                      ("record", shared), ("either", shared), ("text", shared, "a", 0, 1), ("integer", shared, shared),
                      record(("a", FLAG, True), ("b", ("repeat", shared), True)), (shared, shared, shared),
                      record((shared, shared, shared)), ("flag",) * 100000, ("choice", ("a",) * 100000),
                      ("choice", ("a" * 100000,)), ("record", (("a", FLAG, True),) * 100000), nested(20)):
            self.assertIs(is_schema(thing), False)

    def test_large_schemas_do_not_take_long(self):
        schema = FLAG
        for _ in range(5):
            schema = ("list", (schema,) * 8, schema, 8, 8)
        self.assertIs(is_schema(schema), True)
        schema = integer(0, 5)
        for _ in range(5):
            schema = ("either", (FLAG, integer(0, 5), ("list", (schema,), schema, 1, 8), record(("a", schema, True))))
        self.assertIs(is_schema(schema), True)

    def test_no_value_raises(self):
        chance = random.Random(6)
        for _ in range(2000):
            schema = random_schema(chance, 3)
            broken = self.broken(chance, schema)
            before = copy.deepcopy(broken)
            self.assertIn(is_schema(broken), (True, False))
            self.assertEqual(broken, before)

    def broken(self, chance, thing):
        """A thing with one part of it replaced."""
        if chance.random() < 0.3 or not isinstance(thing, (tuple, list)) or len(thing) == 0:
            return chance.choice(FOREIGN + [random_value(chance)])
        parts = list(thing)
        at = chance.randrange(len(parts))
        parts[at] = self.broken(chance, parts[at])
        return type(thing)(parts)


if __name__ == "__main__":
    unittest.main()
