"""Lengths and counts, against plain enumeration and plain sums."""

import random
import unittest

import samples
from soonknown.counting import counts, longest_length, shortest_length

LIMITS = (0, 1, 2, 5, 9, 14, 30, 400)


def plain_counts(documents, limit):
    found = [0] * (limit + 1)
    for document in documents:
        if len(document) <= limit:
            found[len(document)] += 1
    return found


def integer_counts(least, greatest, limit):
    """The counts of an integer schema, number of digits by number of digits."""
    found = [0] * (limit + 1)
    for size in range(1, 11):
        low, high = 10 ** (size - 1), 10 ** size - 1
        for length, begin, end in ((size, low, high), (size + 1, -high, -low), (size, 0, 0)):
            if length <= limit and (begin != 0 or size == 1):
                found[length] += len(range(max(begin, least), min(end, greatest) + 1))
    return found


class Counting(unittest.TestCase):
    def check(self, schema, lengths):
        documents = samples.documents_of(schema)
        sizes = [len(document) for document in documents]
        self.assertEqual(shortest_length(schema), min(sizes))
        self.assertEqual(longest_length(schema), max(sizes))
        near = {limit for limit in (min(sizes) - 1, min(sizes), max(sizes), max(sizes) + 1) if 0 <= limit <= 400}
        for limit in near | set(lengths):
            self.assertEqual(counts(schema, limit), plain_counts(documents, limit))

    def test_small_schemas_of_every_form(self):
        source = random.Random(31)
        for schema in samples.small_schemas(source, 400):
            self.check(schema, LIMITS)

    def test_every_limit(self):
        for schema in samples.small_schemas(random.Random(32), 30, 60):
            self.check(schema, range(60))

    def test_integers_with_any_ends(self):
        ends = [-10 ** 9, 10 ** 9, 0, 1, -1, 9, 10, -9, -10, 99, 100, 10 ** 8, 10 ** 9 - 1, 1 - 10 ** 9]
        source = random.Random(33)
        for _ in range(300):
            least, greatest = sorted(source.choice([source.choice(ends), source.randint(-10 ** 9, 10 ** 9),
                                                    source.randint(-999, 999)]) for _ in range(2))
            for limit in (0, 1, source.randint(2, 12), 400):
                schema = ("integer", least, greatest)
                self.assertEqual(counts(schema, limit), integer_counts(least, greatest, limit))
            found = [size for size, many in enumerate(integer_counts(least, greatest, 12)) if many]
            self.assertEqual([shortest_length(schema), longest_length(schema)], [found[0], found[-1]])

    def test_texts_of_many_letters(self):
        for start, letters, least, greatest in (
                ("", "abcdefghijklmnopqrstuvwxyz", 0, 12), ("ab", "abcdefghijklmnopqrstuvwxyz", 5, 12),
                ("abcdefghijkl", "z", 12, 12), ("x", "bcdf", 1, 11), ("", "q", 3, 12)):
            schema = ("text", start, letters, least, greatest)
            want = [0] * 401
            for size in range(least, greatest + 1):
                want[size + 2] = len(letters) ** (size - len(start))
            self.assertEqual(counts(schema, 400), want)
            self.assertEqual(counts(schema, 9), want[:10])
            self.assertEqual([shortest_length(schema), longest_length(schema)], [least + 2, greatest + 2])

    def test_optional_members(self):
        members = tuple((name, ("flag",), False) for name in "abcdefgh")
        self.check(("record", members), LIMITS)
        self.check(("record", ()), LIMITS)
        self.check(("record", (("a", ("just", {}), False), ("b", ("just", []), True))), LIMITS)

    def test_repeats_and_sizes(self):
        number = ("integer", 8, 12)
        size = ("integer", 0, 3)
        for members in (
                (("a", number, True), ("b", ("repeat", "a"), True), ("c", ("repeat", "a"), False)),
                (("a", size, True), ("b", ("sized", ("flag",), "a"), False), ("c", ("repeat", "a"), True)),
                (("a", size, True), ("b", size, True), ("c", ("sized", ("integer", 9, 10), "b"), True),
                 ("d", ("sized", ("just", "x"), "a"), True)),
                (("a", ("just", 2), True), ("b", ("sized", ("list", (), ("flag",), 0, 2), "a"), True)),
                (("a", ("flag",), True), ("b", ("repeat", "a"), False)),
                (("a", ("choice", ("", "abc")), True), ("aa", ("flag",), False), ("b", ("repeat", "a"), True)),
                (("a", ("just", "xy"), True), ("b", ("repeat", "a"), False))):
            self.check(("record", members), LIMITS)
            self.check(("list", (("record", members),), ("flag",), 1, 2), LIMITS)

    def test_the_longest_value_need_not_be_the_greatest(self):
        self.assertEqual(longest_length(("integer", -10, 9)), 3)
        self.assertEqual(shortest_length(("integer", -100, -9)), 2)
        schema = ("record", (("a", ("integer", 0, 8), True), ("b", ("sized", ("just", "x"), "a"), True)))
        self.assertEqual(longest_length(schema), len('{"a":8,"b":[') + 8 * 4 + 1)
        self.assertEqual(shortest_length(schema), len('{"a":0,"b":[]}'))

    def test_counts_can_be_changed(self):
        schema = ("list", (), ("just", [1, {"a": 2}]), 0, 2)
        found = counts(schema, 20)
        found[2] = 100
        self.assertEqual(counts(schema=schema, limit=20)[2], 1)
        self.assertEqual(schema, ("list", (), ("just", [1, {"a": 2}]), 0, 2))


if __name__ == "__main__":
    unittest.main()
