"""Point [7]: when two schemas are apart."""

import copy
import itertools
import random
import unittest

from samples import plain_apart, plain_document, random_alternative, random_either, random_plain, random_schema
from samples import kind_of_schema, values_of
from soonknown.schemas import apart, is_schema

FLAG = ("flag",)
NUMBERS = ("integer", 0, 5)
HIGHER = ("integer", 6, 9)


def text(start, letters, least, greatest):
    return ("text", start, letters, least, greatest)


def just(value):
    return ("just", value)


def choice(*words):
    return ("choice", words)


def lists(least, greatest, item=FLAG, leading=()):
    return ("list", leading, item, least, greatest)


def record(*members):
    return ("record", members)


def either(*alternatives):
    return ("either", alternatives)


def need(name, schema):
    return (name, schema, True)


def may(name, schema):
    return (name, schema, False)


def repeat(schema, needed=True):
    """A record whose member b is the same as its member a."""
    return record(need("a", schema), ("b", ("repeat", "a"), needed))


def sized(schema, item=FLAG, needed=True):
    """A record whose list b has as many items as its member a says."""
    return record(need("a", schema), ("b", ("sized", item, "a"), needed))


def kind_of(schema):
    return "either" if schema[0] == "either" else kind_of_schema(schema)


def nested_eithers(schemas, levels, around):
    """Eithers of five alternatives at each level, with one of the schemas at each innermost place."""
    if levels == 0:
        return either(*schemas)
    size = len(schemas) // 5
    parts = [schemas[at:at + size] for at in range(0, len(schemas), size)]
    return either(*[around(nested_eithers(part, levels - 1, around)) for part in parts])


LEAVES = [
    ("integer", 0, 2), ("integer", 1, 1), ("integer", 3, 5), ("integer", 4, 9), just(6), just(1), just(True), FLAG,
    choice("a", "b"), choice("b", "c"), just("c"), text("d", "ab", 1, 3), text("da", "a", 2, 3), text("", "e", 0, 2),
    just([]), just([1, True]), just({"a": 1, "b": 4}), record(),
]

OF_KINDS = {
    "flag": [FLAG, just(True)], "integer": [NUMBERS, just(1)], "list": [lists(0, 2), just([]), just([1])],
    "record": [record(), record(may("a", FLAG)), just({}), just({"a": 1})],
    "string": [choice("a"), text("", "a", 0, 3), just("a"), just("")],
}

APART = [
    (NUMBERS, HIGHER), (("integer", -3, -1), ("integer", 0, 0)), (NUMBERS, just(6)), (NUMBERS, just(-1)),
    (just(1), just(2)), (just(True), just(False)), (just(1), just(True)), (just(0), just(False)), (NUMBERS, just(True)),
    (FLAG, just(1)), (FLAG, just("true")),
    (choice("a", "c"), choice("b", "d")), (choice("a"), just("b")), (just("a"), just("b")), (just(""), choice("a")),
    (just(""), text("", "a", 1, 2)), (just("ab"), text("", "a", 0, 3)), (just("ab"), text("b", "ab", 1, 3)),
    (just("aaa"), text("", "a", 0, 2)), (just("a"), text("", "a", 2, 3)), (just("ab"), text("abc", "abc", 3, 3)),
    (choice("b", "ca"), text("", "ac", 0, 1)), (choice("ab", "ba"), text("a", "c", 1, 3)),
    # Two texts: no common length, starts that differ, a letter of the longer start, no common letter.
    (text("", "a", 0, 2), text("", "a", 3, 5)), (text("a", "ab", 1, 1), text("a", "ab", 2, 3)),
    (text("a", "ab", 1, 3), text("b", "ab", 1, 3)), (text("ab", "ab", 2, 3), text("aa", "ab", 2, 3)),
    (text("ab", "abc", 2, 5), text("acb", "abc", 3, 5)), (text("a", "b", 1, 4), text("aba", "b", 3, 4)),
    (text("", "bc", 0, 4), text("ab", "bc", 2, 4)), (text("", "a", 1, 4), text("", "b", 0, 4)),
    (text("a", "b", 2, 4), text("a", "c", 1, 4)), (text("a", "bc", 1, 4), text("ab", "d", 3, 4)),
    (text("a", "bc", 3, 4), text("ab", "d", 2, 4)),
    (lists(0, 1), lists(2, 3)), (lists(0, 1), just([True, True])), (just([]), just([1])), (just([1]), just([True])),
    (just([1, 2]), just([1, 3])), (lists(1, 3), just([1])), (lists(1, 3), just([])), (lists(2, 2), just([True, 1])),
    (lists(1, 2, NUMBERS), lists(1, 2, HIGHER)), (lists(1, 2, NUMBERS), lists(1, 8, FLAG)),
    (lists(2, 3, FLAG, (NUMBERS,)), lists(1, 3, FLAG, (HIGHER,))),
    (lists(2, 3, FLAG, (NUMBERS, FLAG)), lists(2, 3, NUMBERS)),
    (lists(3, 3, FLAG, (NUMBERS, NUMBERS)), lists(3, 4, NUMBERS)),
    (lists(8, 8, FLAG, (NUMBERS,) * 7), lists(8, 8, NUMBERS)), (lists(2, 2, HIGHER, (FLAG,)), just([True, 5])),
    (lists(1, 1, lists(1, 1, NUMBERS)), lists(1, 1, lists(1, 1, HIGHER))), (just([[1]]), just([[2]])),
    (record(need("a", FLAG)), record()), (record(need("a", FLAG)), record(need("b", FLAG))),
    (record(need("a", FLAG), need("b", FLAG)), record(need("a", FLAG), may("c", FLAG))),
    (record(need("a", NUMBERS)), record(need("a", HIGHER))),
    (record(need("a", FLAG)), record(need("a", NUMBERS), need("b", FLAG))),
    (record(may("a", FLAG), need("b", NUMBERS)), record(may("a", FLAG), need("b", HIGHER))),
    (record(need("a", NUMBERS)), just({"a": 6})), (record(need("a", FLAG)), just({})),
    (record(need("a", FLAG)), just({"b": True})),
    (record(), just({"a": 1})), (just({}), just({"a": 1})), (just({"a": 1}), just({"a": True})),
    (just({"a": 1}), just({"b": 1})),
    (just({"a": 1, "b": 2}), just({"a": 1, "b": 3})),
    (record(need("a", record(need("b", FLAG)))), just({"a": {"b": 1}})),
    # A repeat counts as what it repeats, a sized as lists of the sizes that its member allows.
    (repeat(NUMBERS), record(need("a", NUMBERS), need("b", HIGHER))), (repeat(NUMBERS), repeat(HIGHER)),
    (repeat(NUMBERS), record(need("a", NUMBERS), need("b", FLAG))), (repeat(NUMBERS), just({"a": 1, "b": 6})),
    (repeat(just("x")), just({"a": "x", "b": "y"})), (repeat(FLAG), just({"a": True, "b": 1})),
    (repeat(NUMBERS), record(need("a", NUMBERS))), (repeat(NUMBERS), just({"a": 1})),
    (sized(("integer", 1, 2)), record(need("a", NUMBERS), need("b", lists(3, 8)))),
    (sized(("integer", 1, 2)), record(need("a", NUMBERS), need("b", lists(0, 0)))),
    (sized(("integer", 1, 2)), record(need("a", NUMBERS), need("b", lists(1, 8, NUMBERS)))),
    (sized(just(2)), record(need("a", NUMBERS), need("b", lists(0, 1)))), (sized(just(2)), just({"a": 2, "b": [True]})),
    (sized(just(2)), just({"a": 2, "b": [True] * 3})), (sized(just(2)), just({"a": 2, "b": [True, 1]})),
    (sized(("integer", 1, 3), NUMBERS), sized(("integer", 1, 3), HIGHER)), (sized(NUMBERS), repeat(NUMBERS)),
    (sized(just(1)), sized(just(2))), (sized(("integer", 0, 8)), just({"a": 1, "b": {}})),
    # An either is apart if all its alternatives are.
    (either(NUMBERS, FLAG), either(HIGHER, choice("a"))), (either(NUMBERS, FLAG), HIGHER),
    (either(NUMBERS, FLAG), lists(0, 2)),
    (either(just(1), just(3)), either(just(2), just(4))), (either(NUMBERS, FLAG), just("a")),
    (lists(1, 2, either(NUMBERS, FLAG)), lists(1, 2, either(HIGHER, choice("a")))),
    (record(need("a", either(NUMBERS, FLAG))), record(need("a", either(HIGHER, choice("a"))))),
    (either(lists(1, 1, NUMBERS), lists(2, 2, HIGHER)), either(lists(1, 1, HIGHER), lists(2, 2, NUMBERS))),
]

NOT_APART = [
    (NUMBERS, NUMBERS), (NUMBERS, ("integer", 5, 9)), (("integer", -9, 9), NUMBERS), (NUMBERS, just(5)),
    (NUMBERS, just(0)),
    (just(1), just(1)), (FLAG, FLAG), (FLAG, just(True)), (FLAG, just(False)), (just(True), just(True)),
    (choice("a", "b"), choice("b", "c")), (choice("a", "b"), just("b")), (just(""), just("")),
    (choice("a", "b"), text("", "bc", 1, 1)), (just(""), text("", "a", 0, 0)), (just("ab"), text("ab", "c", 2, 2)),
    (choice("b", "ca"), text("", "ac", 0, 2)),
    (text("", "a", 0, 2), text("", "a", 2, 5)), (text("", "a", 0, 2), text("", "b", 0, 2)),
    (text("a", "b", 1, 4), text("a", "c", 1, 4)), (text("a", "b", 1, 4), text("ab", "c", 2, 4)),
    (text("a", "bc", 1, 4), text("ab", "c", 3, 4)), (text("a", "bc", 1, 4), text("ab", "d", 2, 4)),
    (text("", "ab", 0, 4), text("ab", "c", 2, 2)), (text("a", "ab", 3, 4), text("ab", "bc", 2, 3)),
    (text("a", "b", 1, 4), text("abb", "b", 3, 4)), (text("ab", "c", 2, 4), text("ab", "d", 2, 3)),
    (lists(0, 2), lists(2, 3)), (lists(0, 1, NUMBERS), lists(0, 1, HIGHER)), (lists(0, 1, NUMBERS), lists(1, 1, FLAG)),
    (lists(1, 3), just([True])), (lists(0, 3), just([])), (just([]), just([])), (just([1]), just([1])),
    (lists(1, 3, FLAG, (NUMBERS,)), lists(2, 3, HIGHER, (NUMBERS,))),
    (lists(2, 3, FLAG, (NUMBERS,)), lists(1, 3, HIGHER, (NUMBERS,))),
    (lists(2, 2, HIGHER, (FLAG,)), just([True, 6])), (lists(1, 2, HIGHER, (FLAG,)), just([True])),
    (lists(8, 8, HIGHER, (NUMBERS,) * 7), lists(7, 8, NUMBERS)),
    (lists(1, 1, lists(0, 1, NUMBERS)), lists(1, 1, lists(0, 1, HIGHER))),
    (record(), record()), (record(), just({})), (record(may("a", FLAG)), record()),
    (record(may("a", FLAG)), record(may("b", FLAG))),
    (record(may("a", FLAG)), record(may("a", NUMBERS))), (record(need("a", FLAG)), record(may("a", FLAG))),
    (record(need("a", FLAG)), record(may("a", NUMBERS))), (record(may("a", FLAG)), just({"a": 1})),
    (record(need("a", NUMBERS)), just({"a": 1})),
    (record(need("a", FLAG), may("b", FLAG)), record(need("a", FLAG), may("c", FLAG))),
    (record(need("a", FLAG), may("b", NUMBERS)), record(need("a", FLAG), need("b", HIGHER))),
    (just({"a": 1, "b": 2}), just({"b": 2, "a": 1})), (just({}), just({})),
    (repeat(NUMBERS), record(need("a", NUMBERS), need("b", NUMBERS))), (repeat(NUMBERS), just({"a": 1, "b": 2})),
    (repeat(NUMBERS, False), just({"a": 1})), (repeat(NUMBERS, False), just({"a": 1, "b": 9})),
    (repeat(NUMBERS), repeat(("integer", 5, 9))), (repeat(NUMBERS, False), repeat(NUMBERS)),
    (sized(("integer", 1, 2)), record(need("a", NUMBERS), need("b", lists(2, 8)))),
    (sized(("integer", 1, 2)), just({"a": 1, "b": [True, True]})),
    (sized(("integer", 0, 2)), record(need("a", NUMBERS), need("b", lists(0, 8, NUMBERS)))),
    (sized(just(2)), just({"a": 2, "b": [True, False]})),
    (sized(("integer", 0, 3), NUMBERS), sized(("integer", 0, 3), HIGHER)),
    (sized(just(2), FLAG, False), just({"a": 2, "b": [True]})), (sized(just(2), FLAG, False), just({"a": 2})),
    (either(NUMBERS, FLAG), FLAG), (either(NUMBERS, FLAG), either(HIGHER, just(True))),
    (either(HIGHER, just(0)), NUMBERS),
    (either(NUMBERS, FLAG), either(NUMBERS, FLAG)), (either(HIGHER, FLAG), either(choice("a"), just(9))),
    (lists(1, 2, either(NUMBERS, FLAG)), lists(1, 2, either(HIGHER, FLAG))),
    (lists(0, 2, either(NUMBERS, FLAG)), lists(0, 2, choice("a"))),
    (record(need("a", either(NUMBERS, FLAG))), record(need("a", either(HIGHER, just(1))))),
]


class Apart(unittest.TestCase):
    def check(self, first, second, expected):
        with self.subTest(first=first, second=second):
            self.assertIs(is_schema(first) and is_schema(second), True)
            self.assertIs(apart(first, second), expected)
            self.assertIs(apart(second, first), expected)

    def test_apart(self):
        for first, second in APART:
            self.check(first, second, True)
            self.check(lists(1, 1, first), lists(1, 2, second), True)
            self.check(record(need("a", first)), record(need("a", second)), True)
            self.check(lists(0, 1, first), lists(0, 2, second), False)
            self.check(record(may("a", first)), record(need("a", second)), False)

    def test_not_apart(self):
        for first, second in NOT_APART:
            self.check(first, second, False)
            self.check(lists(1, 1, first), lists(1, 2, second), False)
            self.check(record(need("a", first)), record(need("a", second)), False)

    def test_kinds(self):
        for (kind, schemas), (other, others) in itertools.product(OF_KINDS.items(), repeat=2):
            for first, second in itertools.product(schemas, others):
                if kind != other:
                    self.check(first, second, True)

    def test_eithers_ask_for_all_alternatives(self):
        schemas = [NUMBERS, HIGHER, just(7), FLAG, just(True), choice("a"), just("b"), lists(0, 1), just([1]), record(),
                   just({"a": 1})]
        pairs = [(first, second) for first, second in itertools.combinations(schemas, 2) if apart(first, second)]
        for first, second in pairs:
            for other in schemas:
                expected = apart(first, other) and apart(second, other)
                self.check(either(first, second), other, expected)
                self.check(either(second, first), either(other, just("z")), expected)

    def test_plain_schemas_are_apart_if_no_value_has_both(self):
        chance = random.Random(8)
        for _ in range(6000):
            first, second = random_plain(chance), random_plain(chance)
            found = {plain_document(value) for value in values_of(first)}
            common = [value for value in values_of(second) if plain_document(value) in found]
            self.assertIs(apart(first, second), common == [], (first, second))

    def test_texts_are_apart_if_no_string_has_both(self):
        starts = ["", "a", "b", "ab", "ba", "bb"]
        texts = [text(start, letters, least, greatest) for start in starts for letters in ("a", "b", "ab", "bc", "c")
                 for least in range(len(start), 4) for greatest in range(least, 4)]
        chance = random.Random(9)
        values = {schema: set(values_of(schema)) for schema in texts}
        for _ in range(20000):
            first, second = chance.choice(texts), chance.choice(texts)
            self.assertIs(apart(first, second), not values[first] & values[second], (first, second))

    def test_no_value_has_two_schemas_that_are_apart(self):
        chance = random.Random(10)
        found = 0
        for _ in range(1500):
            first, second = random_schema(chance, 3), random_schema(chance, 3)
            if first[0] != second[0] or not is_schema(first) or not is_schema(second):
                continue
            expected = apart(first, second)
            self.assertIs(apart(second, first), expected, (first, second))
            self.assertIs(apart(first, first), False, first)
            if expected:
                found += 1
                documents = {plain_document(value) for value in values_of(first)}
                for value in values_of(second):
                    self.assertNotIn(plain_document(value), documents, (first, second))
        self.assertGreater(found, 50)

    def test_rules_pair_by_pair(self):
        chance = random.Random(11)
        found = {True: 0, False: 0}
        for _ in range(6000):
            leaves = chance.sample(LEAVES, chance.randint(4, len(LEAVES)))
            cut = chance.randint(1, len(leaves) - 1)
            # With some leaves of the other side it is mostly a few pairs that are not apart.
            others = leaves[cut:] * 3 + leaves[:chance.choice([0, 0, 0, 1])]
            depth = chance.choice([2, 3, 3, 4])
            make = chance.choice([random_either, random_either, random_alternative])
            first, second = make(chance, depth, leaves[:cut]), make(chance, depth, others)
            expected = plain_apart(first, second)
            found[expected] += kind_of(first) == kind_of(second)
            self.assertIs(apart(first, second), expected, (first, second))
            self.assertIs(apart(second, first), expected, (first, second))
        self.assertGreater(min(found.values()), 1000)
        for first, second in itertools.product([pair[0] for pair in APART + NOT_APART], repeat=2):
            self.assertIs(apart(first, second), plain_apart(first, second), (first, second))

    def test_eithers_at_all_levels_do_not_take_long(self):
        chance = random.Random(12)
        words = ["".join(letters) for letters in itertools.product("abcde", repeat=6)]
        leaves = [
            [("integer", number, number) for number in range(5 ** 6)],
            [text(word, "ab", 7, 9) for word in words],
            [choice(word, word + "f") for word in words],
        ]
        for schemas in leaves:
            chance.shuffle(schemas)
            self.assertIs(is_schema(nested_eithers(schemas, 5, lambda part: lists(1, 1, part))), True)
            schema = nested_eithers(schemas[1:] + schemas[:1], 5, lambda part: record(need("a", part), may("b", FLAG)))
            self.assertIs(is_schema(schema), True)
            self.assertIs(apart(schema, schema), False)
            schemas[0] = schemas[-1]
            self.assertIs(is_schema(nested_eithers(schemas, 5, lambda part: lists(1, 1, part))), False)

    def test_large_schemas_do_not_take_long(self):
        first, second = NUMBERS, HIGHER
        for _ in range(5):
            first, second = lists(8, 8, first, (first,) * 8), lists(8, 8, second, (second,) * 7)
        self.check(first, second, True)
        self.check(first, first, False)
        first, second = NUMBERS, FLAG
        for _ in range(5):
            first = either(*[lists(many, many, first) for many in range(1, 6)])
            second = either(*[lists(many, many, second) for many in range(1, 6)])
        self.check(first, second, True)
        self.check(first, first, False)
        first, second = NUMBERS, FLAG
        for _ in range(5):
            first = either(*[lists(many, many, first, (first,) * many) for many in range(4, 9)])
            second = either(*[lists(many, many, second, (second,) * many) for many in range(4, 9)])
        self.assertIs(apart(first, second), True)
        self.assertIs(apart(first, first), False)

    def test_arguments(self):
        first, second = sized(just(1)), just({"b": [True, 1], "a": 2})
        before = copy.deepcopy((first, second))
        self.assertIs(apart(first=first, second=second), True)
        self.assertEqual((first, second), before)
        self.assertEqual(list(second[1]), ["b", "a"])

    def test_somewhat_beyond_the_limits(self):
        self.assertIs(apart(lists(9, 9), lists(10, 10)), True)
        self.assertIs(apart(just("a" * 13), just("a" * 13)), False)
        self.assertIs(apart(("integer", 0, 10 ** 10), just(10 ** 10)), False)


if __name__ == "__main__":
    unittest.main()
