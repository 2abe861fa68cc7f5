"""The pieces of a schema for a prefix, against all values of small schemas."""

import random
import unittest

import samples
from soonknown.counting import counts
from soonknown.narrowing import narrow
from soonknown.schemas import fits, is_schema


def added(rows):
    return [sum(column) for column in zip(*rows)] if rows else [0] * 401


class Narrowing(unittest.TestCase):
    def check(self, schema, documents, prefix):
        pieces = narrow(schema, prefix)
        self.assertIsInstance(pieces, list)
        for piece in pieces:
            self.assertTrue(is_schema(piece), (schema, prefix, piece))
        for at, piece in enumerate(pieces):
            for other in pieces[:at]:
                self.assertTrue(samples.plain_apart(piece, other), (schema, prefix, pieces))
        found = sorted(document for piece in pieces for document in samples.documents_of(piece))
        self.assertEqual(found, [document for document in documents if document.startswith(prefix)])
        return pieces

    def check_longer(self, schema, pieces, longer):
        """The pieces narrowed by a longer prefix have as many values of each length as the schema narrowed by it."""
        twice = added([counts(part, 400) for piece in pieces for part in narrow(piece, longer)])
        self.assertEqual(twice, added([counts(part, 400) for part in narrow(schema, longer)]))

    def test_small_schemas_of_every_form(self):
        source = random.Random(51)
        for schema in samples.small_schemas(source, 600):
            documents = samples.documents_of(schema)
            prefixes = samples.some_prefixes(source, documents)
            for prefix in prefixes:
                pieces = self.check(schema, documents, prefix)
                longer = [other for other in prefixes if other.startswith(prefix)]
                self.check_longer(schema, pieces, source.choice(longer))

    def test_integers(self):
        for least, greatest in ((0, 25), (-25, 25), (-200, -5), (5, 120), (99, 101), (-1, 0), (0, 0), (1, 1)):
            schema = ("integer", least, greatest)
            documents = samples.documents_of(schema)
            for prefix in ["", "-", "0", "-0", "00", "01", "a", "1,", "1 ", "+1", "--1", "1-"]:
                self.check(schema, documents, prefix)
            for value in range(-130, 131):
                self.check(schema, documents, str(value))

    def test_the_greatest_integers(self):
        everything = ("integer", -10 ** 9, 10 ** 9)
        for prefix, many in (("", 2 * 10 ** 9 + 1), ("-", 10 ** 9), ("0", 1), ("1", 111111111 + 1),
                             ("-1", 111111111 + 1), ("9", 111111111), ("1000000000", 1), ("-1000000000", 1),
                             ("100000000", 2), ("1000000001", 0), ("10000000000", 0), ("999999999", 1)):
            pieces = narrow(everything, prefix)
            for piece in pieces:
                self.assertTrue(is_schema(piece))
            self.assertEqual(sum(sum(counts(piece, 20)) for piece in pieces), many, prefix)
        self.assertEqual(narrow(("integer", 10 ** 9 - 5, 10 ** 9), "2"), [])

    def test_an_open_integer_and_one_that_is_closed(self):
        schema = ("list", (), ("integer", 0, 25), 0, 3)
        self.assertEqual(sum(counts(piece, 3)[3] for piece in narrow(schema, "[1")), 1)
        self.assertEqual(narrow(schema, "[1]"), [("just", [1])])
        for piece in narrow(schema, "[1,"):
            self.assertFalse(fits(piece, [1]))
            self.assertFalse(fits(piece, [10, 1]))
            self.assertTrue(fits(piece, [1, 25]))
        self.assertEqual(narrow(schema, "[1,2,3,"), [])
        self.assertEqual(narrow(schema, "[,"), [])
        self.assertEqual(narrow(schema, "[1,]"), [])

    def test_repeated_and_counted_members(self):
        number = ("integer", 0, 12)
        schema = ("record", (("a", number, True), ("b", ("repeat", "a"), False), ("c", ("repeat", "a"), True)))
        documents = samples.documents_of(schema)
        for document in documents:
            for cut in range(len(document) + 1):
                self.check(schema, documents, document[:cut])
        for prefix in ('{"a":1,"b":2', '{"a":1,"c":10', '{"b', '{"a":1,"d', '{"a":1}', '{"a":13', '{"a":1,"c":1,"b'):
            self.assertEqual(self.check(schema, documents, prefix), [])
        schema = ("record", (("m", ("just", 2), True), ("n", ("integer", 0, 2), True), ("x", ("flag",), False),
                             ("y", ("sized", ("flag",), "n"), True), ("z", ("sized", ("just", 0), "m"), False)))
        documents = samples.documents_of(schema)
        for document in documents[::5]:
            for cut in range(len(document) + 1):
                self.check(schema, documents, document[:cut])

    def test_deep_eithers_do_not_make_more_and_more_pieces(self):
        schema = ("integer", 0, 9)
        for _ in range(4):
            schema = ("either", tuple(("list", (), schema, size, size) for size in (1, 2)))
        for prefix in ("[", "[[", "[[[", "[[[[", "[[[[1", "[[[[1]"):
            pieces = narrow(schema, prefix)
            self.assertLessEqual(len(pieces), 10)
            for piece in pieces:
                self.assertTrue(is_schema(piece))

    def test_pieces_can_be_changed(self):
        inner = [1, {"a": 2}]
        schema = ("either", (("just", inner), ("list", (), ("flag",), 0, 2)))
        for prefix in ("", "[", "[1", '[1,{"a":2}]'):
            for piece in narrow(schema=schema, prefix=prefix):
                if piece[0] == "just" and len(piece[1]) == 2:
                    piece[1][1]["a"] = 3
                    piece[1].append(4)
            self.assertEqual(inner, [1, {"a": 2}])
        schema = ("list", (("just", inner), ("just", inner)), ("just", inner), 2, 3)
        for piece in narrow(schema, '[[1,{"a":2}],'):
            for part in (*piece[1][1:], piece[2]):
                self.assertEqual(part, ("just", [1, {"a": 2}]))
                part[1].clear()
        self.assertEqual(inner, [1, {"a": 2}])


if __name__ == "__main__":
    unittest.main()
