"""Automata and comparisons, against automata that are built from all documents of small schemas."""

import random
import time
import unittest

import samples
from soonknown.automata import accepts, automaton, equal, outside
from soonknown.counting import counts
from soonknown.errors import TooManyStates
from test_counting import integer_counts


def least_automaton(documents):
    """The least automaton that accepts some documents, numbered as [21] says: built from their tree, bottom up."""
    tree = {}
    for document in documents:
        at = tree
        for sign in document:
            at = at.setdefault(sign, {})
        at[""] = True
    numbers = {}
    states = []

    def state(node):
        steps = tuple((sign, state(node[sign])) for sign in sorted(node) if sign)
        told = ("" in node, steps)
        if told not in numbers:
            numbers[told] = len(states)
            states.append(told)
        return numbers[told]

    order = [state(tree)]
    for number in order:
        order += [later for _, later in states[number][1] if later not in order]
        order = list(dict.fromkeys(order))
    return renumbered(states, order[0])


def renumbered(states, first):
    order = [first]
    for number in order:
        for _, later in states[number][1]:
            if later not in order:
                order.append(later)
    places = {number: at for at, number in enumerate(order)}
    return [(states[number][0], tuple((sign, places[later]) for sign, later in states[number][1]))
            for number in order]


def lengths_of(states, limit):
    """The numbers of accepted texts of each length up to a limit."""
    found = []
    ways = {0: 1}
    for _ in range(limit + 1):
        found.append(sum(many for at, many in ways.items() if states[at][0]))
        later = {}
        for at, many in ways.items():
            for _, state in states[at][1]:
                later[state] = later.get(state, 0) + many
        ways = later
    return found


class Automata(unittest.TestCase):
    def test_small_schemas_of_every_form(self):
        source = random.Random(81)
        for schema in samples.small_schemas(source, 400):
            documents = samples.documents_of(schema)
            found = automaton(schema)
            self.assertEqual(found, least_automaton(documents), schema)
            for prefix in samples.some_prefixes(source, documents):
                self.assertIs(accepts(found, prefix), prefix in documents)
            self.check_bounds(schema, len(found))

    def check_bounds(self, schema, many):
        other = ("flag",)
        for bound in (0, 1, many - 1):
            with self.assertRaises(TooManyStates) as caught:
                automaton(schema, bound=bound)
            self.assertEqual(caught.exception.bound, bound)
        for bound in (many, many + 1, 2000, 10 ** 6):
            self.assertEqual(len(automaton(schema, bound=bound)), many)
        for bound in (many - 1, 9):
            for function in (outside, equal):
                for pair in ((schema, other), (other, schema)):
                    if bound < max(many, 9):
                        with self.assertRaises(TooManyStates) as caught:
                            function(*pair, bound=bound)
                        self.assertEqual(caught.exception.bound, bound)
                    else:
                        function(*pair, bound=bound)

    def test_the_flag_has_eight_states(self):
        self.assertEqual(len(automaton(("flag",))), 8)

    def test_integers_with_any_ends(self):
        ends = [-10 ** 9, 10 ** 9, 0, 1, -1, 9, 10, -9, -10, 99, 100, 101, 10 ** 8, 10 ** 9 - 1, 1 - 10 ** 9]
        source = random.Random(82)
        for _ in range(200):
            least, greatest = sorted(source.choice([source.choice(ends), source.randint(-10 ** 9, 10 ** 9),
                                                    source.randint(-999, 999)]) for _ in range(2))
            states = automaton(("integer", least, greatest))
            self.assertEqual(len(set(states)), len(states))
            self.assertEqual(lengths_of(states, 12), integer_counts(least, greatest, 12))
            for value in (least, greatest, least - 1, greatest + 1, (least + greatest) // 2, 0):
                self.assertIs(accepts(states, str(value)), least <= value <= greatest)
            for text in ("", "-", "-0", "00", "01", str(greatest) + " ", "a" + str(least)):
                self.assertIs(accepts(states, text), False)
            if greatest - least < 2000:
                self.assertEqual(states, least_automaton([str(value) for value in range(least, greatest + 1)]))

    def test_schemas_with_very_many_values(self):
        word = ("text", "ab", "abcdefghijklmnopqrstuvwxyz", 2, 12)
        size = ("integer", 0, 8)
        for schema in (
                ("list", (), word, 8, 8), ("list", (), ("list", (), word, 0, 8), 0, 8),
                ("record", tuple((name, ("integer", -10 ** 9, 10 ** 9), name < "e") for name in "abcdefgh")),
                ("record", (("a", size, True), ("b", ("sized", word, "a"), True), ("c", ("repeat", "a"), False))),
                ("either", (("list", (), word, 0, 3), ("list", (), ("flag",), 4, 8), word, ("flag",)))):
            states = automaton(schema)
            self.assertEqual(lengths_of(states, 400), counts(schema, 400))
            self.assertEqual(renumbered(states, 0), states)

    def test_the_bound_that_is_not_given(self):
        # A single document has one state more than characters.
        row = ["a" * 12] * 8
        value = [[row] * 8, [row] * 7, [row], "a" * 12, "a" * 12, "a" * 7]
        self.assertEqual(len(samples.plain_document(value)), 1999)
        longer = value[:-1] + ["a" * 8]
        self.assertEqual(len(automaton(("just", value))), 2000)
        self.assertEqual(outside(("just", value), ("flag",)), samples.plain_document(value))
        self.assertTrue(equal(("just", value), ("just", value)))
        for call in (lambda: automaton(("just", longer)), lambda: outside(("just", longer), ("flag",)),
                     lambda: outside(("flag",), ("just", longer)), lambda: equal(("just", longer), ("just", value)),
                     lambda: equal(("just", value), ("just", longer))):
            with self.assertRaises(TooManyStates) as caught:
                call()
            self.assertEqual(caught.exception.bound, 2000)
        self.assertEqual(len(automaton(("just", longer), bound=2001)), 2001)

    def test_too_many_states_are_told_soon(self):
        members = [(name, ("integer", 0, 39), True) for name in "abcd"]
        members += [(name, ("repeat", other), True) for name, other in zip("efgh", "abcd")]
        deep = ("text", "", "abcdefghijklmnopqrstuvwxyz", 0, 12)
        for _ in range(5):
            deep = ("list", (), deep, 0, 8)
        for schema in (("record", tuple(members)), deep):
            with self.assertRaises(TooManyStates):
                automaton(schema)
            with self.assertRaises(TooManyStates):
                outside(("flag",), schema)
            with self.assertRaises(TooManyStates):
                equal(schema, ("flag",))

    def test_what_is_returned_can_be_changed(self):
        found = automaton(("flag",))
        found.clear()
        self.assertEqual(len(automaton(schema=("flag",), bound=8)), 8)
        with self.assertRaises(TypeError):
            automaton(("flag",), 8)
        with self.assertRaises(TypeError):
            outside(("flag",), ("flag",), 8)
        with self.assertRaises(TypeError):
            equal(("flag",), ("flag",), 8)


def repeated_numbers(greatest, words):
    """A schema whose automaton has a long row of states for each of its numbers."""
    return ("record", (("a", ("integer", 10, greatest), True), ("b", ("just", words), True),
                       ("c", ("repeat", "a"), True)))


class ManyStates(unittest.TestCase):
    """Automata of some 2000 states."""

    SCHEMAS = [repeated_numbers(48, ["abcdefghijkl"] * 4),
               repeated_numbers(40, ["abcdefghijkl", "abcdefghijkl", "abc", ""])]

    def four_calls(self, schema):
        """What the four calls return, or the bound that they raise."""
        found = []
        for call in (lambda: automaton(schema, bound=9000), lambda: automaton(schema),
                     lambda: outside(("flag",), schema), lambda: equal(schema, ("flag",))):
            try:
                found.append(call())
            except TooManyStates as error:
                found.append(("bound", error.bound))
        return found

    def test_the_four_calls(self):
        sizes = []
        for schema in self.SCHEMAS + [repeated_numbers(25, ["abc"]), repeated_numbers(48, ["abcdefghijkl"] * 2 + [""])]:
            wanted = least_automaton(samples.documents_of(schema))
            sizes.append(len(wanted))
            few = len(wanted) <= 2000
            told = [wanted, "true", False] if few else [("bound", 2000)] * 3
            self.assertEqual(self.four_calls(schema), [wanted] + told)
            self.assertEqual(automaton(schema, bound=len(wanted)), wanted)
            for bound in (len(wanted) - 1, 1000, 1):
                if bound < len(wanted):
                    with self.assertRaises(TooManyStates) as caught:
                        automaton(schema, bound=bound)
                    self.assertEqual(caught.exception.bound, bound)
        self.assertEqual(sizes[:2], [2830, 1603])

    def test_they_do_not_take_long(self):
        begin = time.perf_counter()
        for _ in range(200):
            for schema in self.SCHEMAS:
                self.four_calls(schema)
        self.assertLess(time.perf_counter() - begin, 12)

    def test_rows_of_states_without_a_choice(self):
        source = random.Random(84)
        inner = ("just", {"a": [1, True], "b": "", "c": {}})
        forks = [("flag",), ("integer", 0, 12), ("choice", ("ab", "abc")), ("just", [])]
        for _ in range(60):
            parts = [source.choice([inner, ("just", source.choice([7, -7, "abc", True, [], {}, [[]]])),
                                    ("text", "ab", "c", 4, 4), ("text", "abc", "xy", 3, 3), ("list", (), inner, 2, 2),
                                    ("list", (), inner, 0, 0), ("record", (("x", inner, True),)), source.choice(forks),
                                    ("record", (("x", ("just", 0), False),)), ("integer", 5, 5)]) for _ in range(3)]
            size = ("integer", 0, 2) if source.random() < 0.5 else ("just", 2)
            for schema in (("list", tuple(parts), parts[0], 3, source.choice([3, 4])),
                           ("record", tuple((name, part, source.random() < 0.8) for name, part in zip("abc", parts))),
                           ("record", (("a", size, True), ("b", ("sized", parts[0], "a"), True),
                                       ("c", ("repeat", "a"), True), ("d", parts[1], True)))):
                self.assertEqual(automaton(schema), least_automaton(samples.documents_of(schema)), schema)


class Comparisons(unittest.TestCase):
    def check(self, first, second):
        ours, others = samples.documents_of(first), set(samples.documents_of(second))
        missing = [document for document in ours if document not in others]
        self.assertEqual(outside(first, second), min(missing, key=lambda text: (len(text), text), default=None))
        self.assertIs(equal(first, second), set(ours) == others)

    def test_pairs_of_small_schemas(self):
        source = random.Random(83)
        schemas = samples.small_schemas(source, 60, 60)
        for first in schemas:
            self.check(first, first)
            for second in source.sample(schemas, 12):
                self.check(first, second)

    def test_near_schemas(self):
        flags = ("list", (), ("flag",), 0, 2)
        schemas = [
            flags, ("list", (("flag",),), ("flag",), 1, 2), ("either", (("just", []), ("list", (), ("flag",), 1, 2))),
            ("list", (("just", True),), ("flag",), 1, 2), ("list", (), ("just", True), 0, 2),
            ("either", (("just", True), ("just", False))), ("flag",), ("just", True), ("just", 1), ("integer", 1, 1),
            ("integer", 0, 99), ("either", (("integer", 0, 9), ("integer", 10, 99))), ("integer", 0, 100),
            ("choice", ("a", "aa")), ("text", "", "a", 1, 2), ("text", "a", "a", 1, 2), ("text", "a", "ab", 1, 2),
            ("record", (("a", ("flag",), True), ("b", ("repeat", "a"), True))),
            ("record", (("a", ("flag",), True), ("b", ("flag",), True))),
            ("either", (("just", {"a": True, "b": True}), ("just", {"a": False, "b": False}))),
            ("record", (("a", ("flag",), True), ("b", ("repeat", "a"), False))),
        ]
        for first in schemas:
            for second in schemas:
                self.check(first, second)


if __name__ == "__main__":
    unittest.main()
