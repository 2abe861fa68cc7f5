"""Witnesses against all completions, and covers against all values."""

import copy
import random
import unittest

import samples
from soonknown.certificates import check_cover, is_witness, witness
from soonknown.errors import BadPrefix, NoRoom
from soonknown.narrowing import narrow
from soonknown.schemas import apart, is_schema
from test_knowledge import THINGS, containers_of, exact

PATHS = [(), (0,), (1,), ("a",), ("b",), ("c",), ("a", 0), ("b", 0), (0, 0), (1, "a"), (0, "b"), (True,), (-1,), (7,),
         (8,), ("",), ("zz",), (False,), ("b", 1), (0, "a"), ("a", "a"), (None,), ((),), ([],)]


def part_at(value, path):
    """The document of the part to which a path leads, or None."""
    for step in path:
        if isinstance(value, list) and type(step) is int and 0 <= step < len(value):
            value = value[step]
        elif isinstance(value, dict) and type(step) is str and step in value:
            value = value[step]
        else:
            return None
    return samples.plain_document(value)


def paths_in(value):
    found = [()]
    parts = enumerate(value) if isinstance(value, list) else value.items() if isinstance(value, dict) else []
    for step, part in parts:
        found += [(step,) + path for path in paths_in(part)]
    return found


class Witnesses(unittest.TestCase):
    def check(self, source, schema, values, prefix, limit):
        """Compare witnesses with all completions, given as a dict from documents to values."""
        fitting = [value for document, value in values.items() if limit is None or len(document) <= limit]
        paths = PATHS + paths_in(source.choice(list(values.values())))
        if not fitting:
            self.check_no_room(schema, prefix, limit, min(len(document) for document in values))
            return
        for path in source.sample(paths, 8):
            parts = {part_at(value, path) for value in fitting}
            pair = witness(schema, prefix, path, limit=limit)
            if len(parts) == 1:
                self.assertIsNone(pair)
            else:
                self.assertIsInstance(pair, tuple)
                documents = [samples.plain_document(value) for value in pair]
                for document in documents:
                    self.assertIn(document, values)
                    self.assertTrue(limit is None or len(document) <= limit)
                self.assertNotEqual(part_at(pair[0], path), part_at(pair[1], path))
                self.assertTrue(is_witness(schema, prefix, path, pair, limit=limit))
                self.assertFalse(is_witness(schema, prefix, path, list(pair), limit=limit))
            for _ in range(3):
                pair = (source.choice(fitting), source.choice(list(values.values())))
                want = part_at(pair[0], path) != part_at(pair[1], path)
                want = want and (limit is None or len(samples.plain_document(pair[1])) <= limit)
                self.assertIs(is_witness(schema, prefix, path, pair, limit=limit), want)

    def check_no_room(self, schema, prefix, limit, length):
        for path in ((), ("a",), None):
            with self.assertRaises(NoRoom) as caught:
                witness(schema, prefix, path, limit=limit)
            self.assertEqual(caught.exception.length, length)
            for pair in ((1, 2), None):
                with self.assertRaises(NoRoom) as caught:
                    is_witness(schema, prefix, path, pair, limit=limit)
                self.assertEqual(caught.exception.length, length)

    def check_bad_prefix(self, schema, prefix, position):
        for limit in (None, 0, 400):
            with self.assertRaises(BadPrefix) as caught:
                witness(schema, prefix, (), limit=limit)
            self.assertEqual(caught.exception.position, position)
            for pair in ((1, 2), None):
                with self.assertRaises(BadPrefix) as caught:
                    is_witness(schema, prefix, (), pair, limit=limit)
                self.assertEqual(caught.exception.position, position)

    def test_small_schemas_of_every_form(self):
        source = random.Random(101)
        for schema in samples.small_schemas(source, 80, 60):
            values = {samples.plain_document(value): value for value in samples.values_of(schema)}
            documents = sorted(values)
            for prefix in samples.some_prefixes(source, documents, 1):
                position = samples.prefix_refused_at(documents, prefix)
                if position is not None:
                    self.check_bad_prefix(schema, prefix, position)
                    continue
                going_on = {document: values[document] for document in documents if document.startswith(prefix)}
                lengths = sorted(len(document) for document in going_on)
                for limit in {None, lengths[0] - 1, lengths[0], source.choice(lengths), lengths[0] + 6}:
                    self.check(source, schema, going_on, prefix, limit)

    def test_pairs_of_other_things(self):
        schema = ("list", (), ("integer", 0, 1), 0, 2)
        good = ([0], [1])
        self.assertTrue(is_witness(schema, "", (), good))
        for pair in THINGS + [(), ([0],), ([0], [1], [0]), ([0], 1), ([0], [2]), ([0], [True]), ([0], [False]),
                              ([0], (1,)), ([0], None), ([0], "a"), [[0], [1]], ([0], [0, 0, 0]), ([0], [0])]:
            self.assertIs(is_witness(schema, "", (), pair), False)
        self.assertFalse(is_witness(schema, "[1", (), good))
        self.assertFalse(is_witness(schema, "", (), ([0], [0, 1]), limit=4))
        self.assertTrue(is_witness(schema, "", (), ([0], [0, 1]), limit=5))
        for path in THINGS:
            self.assertIs(is_witness(schema, "", path, good), False)
            if not isinstance(path, tuple):
                self.assertIsNone(witness(schema, "", path))
        deep = 1
        for _ in range(40):
            deep = (deep, deep)
        self.assertIs(is_witness(schema, "", (), deep), False)
        self.assertIs(is_witness(schema, "", deep, good), False)
        self.assertIsNone(witness(schema, "", deep))
        self.assertFalse(is_witness(("either", (("flag",), ("integer", 0, 1))), "", (), (1, 2)))
        self.assertTrue(is_witness(("either", (("flag",), ("integer", 0, 1))), "", (), (1, True)))

    def test_prefixes_that_are_no_strings(self):
        for thing in (None, 5, True, [], ["1"], {}, ("1",)):
            self.check_bad_prefix(("flag",), thing, 0)

    def test_very_many_values(self):
        schema = ("text", "", "abcdefghijklmnopqrstuvwxyz", 12, 12)
        for size in range(4):
            schema = ("list", (), schema, 8, 8)
            path = (7,) * (size + 1)
            pair = witness(schema, "", path)
            self.assertTrue(is_witness(schema, "", path, pair))
        members = [(name, ("integer", 0, 39), True) for name in "abcd"]
        members += [(name, ("repeat", other), True) for name, other in zip("efgh", "abcd")]
        schema = ("record", tuple(members))
        for name in "abcdefgh":
            self.assertTrue(is_witness(schema, "", (name,), witness(schema, "", (name,), limit=60), limit=60))
        self.assertIsNone(witness(schema, '{"a":2,', ("e",)))

    def test_what_is_returned_can_be_changed(self):
        inner = [1, [2]]
        schema = ("list", (("just", inner), ("just", inner)), ("just", inner), 2, 3)
        pair = witness(schema, "", ())
        lists = containers_of(pair)
        self.assertEqual(len({id(thing) for thing in lists + containers_of(inner)}), len(lists) + 2)
        for thing in lists:
            thing.clear()
        self.assertEqual(inner, [1, [2]])
        # Members with the same schema: their values are the same, but not the same lists.
        row = ("list", (), ("list", (), ("flag",), 1, 1), 1, 2)
        schema = ("record", (("a", row, True), ("b", row, True), ("c", row, False), ("d", row, False)))
        for path in ((), ("a",), ("c",), ("d", 0, 0)):
            lists = containers_of(witness(schema, "", path))
            self.assertEqual(len({id(thing) for thing in lists}), len(lists))
        schema = ("list", (("just", inner), ("just", inner)), ("just", inner), 2, 3)
        self.assertEqual(sorted(map(len, witness(schema=schema, prefix="", path=(), limit=None))), [2, 3])
        self.assertTrue(is_witness(schema=("flag",), prefix="", path=(), pair=(True, False), limit=5))
        with self.assertRaises(TypeError):
            witness(("flag",), "", (), 5)
        with self.assertRaises(TypeError):
            is_witness(("flag",), "", (), (True, False), 5)


class Covers(unittest.TestCase):
    def is_cover(self, wanted, pieces):
        """Whether pieces that are schemas are a cover of some documents, by all their values."""
        for at, piece in enumerate(pieces):
            if not all(samples.plain_apart(piece, other) for other in pieces[:at]):
                return False
        return sorted(document for piece in pieces for document in samples.documents_of(piece)) == wanted

    def changed(self, source, schema, pieces, others):
        """Lists of schemas that are mostly no covers."""
        found = [pieces[1:], pieces + pieces[:1], pieces + [("just", "zzz")], pieces[::-1], [schema], pieces + [schema]]
        for at, piece in enumerate(pieces):
            rest = pieces[:at] + pieces[at + 1:]
            values = samples.values_of(piece)
            found.append(rest + [("just", value) for value in values[:12]])
            found.append(rest + [("just", value) for value in values[1:12]])
            found.append(rest + [source.choice(others)])
            found += [rest + [other] for other in self.near(piece)]
        return found

    def near(self, piece):
        """Schemas that are a little wider or narrower than another one."""
        if piece[0] == "integer":
            return [("integer", piece[1] + low, piece[2] + high) for low in (-1, 0, 1) for high in (-1, 0, 1)]
        if piece[0] == "text":
            return [("text", piece[1], piece[2], low, high) for low in range(4) for high in range(4)]
        if piece[0] == "choice":
            return [("choice", piece[1][1:]), ("choice", piece[1] + ("zzz",)), ("choice", piece[1][:-1])]
        if piece[0] == "list":
            found = [("list", piece[1], piece[2], low, piece[4] + high)
                     for low in (piece[3] - 1, piece[3], piece[3] + 1) for high in (-1, 0, 1)]
            for at, part in enumerate(piece[1]):
                found += [("list", piece[1][:at] + (other,) + piece[1][at + 1:], *piece[2:])
                          for other in self.near(part)]
            return found + [("list", piece[1], other, *piece[3:]) for other in self.near(piece[2])]
        if piece[0] == "record":
            found = []
            for at, (name, part, required) in enumerate(piece[1]):
                members = [(name, part, not required), None]
                members += [(name, other, required) for other in self.near(part)]
                for member in members:
                    found.append(("record", piece[1][:at] + ((member,) if member else ()) + piece[1][at + 1:]))
            return found
        return [("just", 5), ("flag",)]

    def test_small_schemas_of_every_form(self):
        source = random.Random(102)
        schemas = samples.small_schemas(source, 150, 60)
        covers = 0
        for schema in schemas:
            documents = samples.documents_of(schema)
            for prefix in source.sample(samples.some_prefixes(source, documents, 1), 3):
                wanted = [document for document in documents if document.startswith(prefix)]
                pieces = narrow(schema, prefix)
                self.assertIs(check_cover(schema, prefix, pieces), True)
                self.assertIs(check_cover(schema, prefix, pieces[::-1]), True)
                for other in self.changed(source, schema, pieces, schemas):
                    if all(is_schema(piece) and samples.most_values(piece) < 500 for piece in other):
                        want = self.is_cover(wanted, other)
                        covers += want
                        self.assertIs(check_cover(schema, prefix, other), want, (schema, prefix, other))
        self.assertGreater(covers, 300)

    def test_pieces_that_are_other_things(self):
        deep = ()
        for _ in range(40):
            deep = [deep, deep]
        for thing in THINGS + [deep, (("flag",),), ("flag",), [("flag",), None], [("integer", 3, 1)], [None],
                               [("repeat", "a")], ["flag"], [["flag"]], {"flag": 1}, [("flag",), ("flag",)]]:
            self.assertIs(check_cover(("flag",), "", thing), False)
        self.assertIs(check_cover(("flag",), "", []), False)
        self.assertIs(check_cover(("flag",), "x", []), True)
        self.assertIs(check_cover(("flag",), "x", [("flag",)]), False)
        self.assertIs(check_cover(("flag",), "t", [("just", True)]), True)
        self.assertIs(check_cover(("flag",), "t", [("just", 1)]), False)

    def test_dependent_members(self):
        number = ("integer", 0, 3)
        one = ("record", (("a", number, True), ("b", ("repeat", "a"), True)))
        split = [("record", (("a", ("just", value), True), ("b", ("repeat", "a"), True))) for value in range(4)]
        self.assertTrue(check_cover(one, "", split))
        self.assertTrue(check_cover(one, "", [("just", {"a": value, "b": value}) for value in range(4)]))
        self.assertFalse(check_cover(one, "", split[1:]))
        self.assertFalse(check_cover(one, "", [("just", {"a": value, "b": (value + 1) % 4}) for value in range(4)]))
        # As many values, but others.
        other = ("record", (("a", number, True), ("b", ("just", 0), True)))
        self.assertFalse(check_cover(one, "", [other]))
        self.assertFalse(check_cover(other, "", [one]))
        sized = ("record", (("a", number, True), ("b", ("sized", ("flag",), "a"), True)))
        lists = [("record", (("a", ("just", size), True), ("b", ("list", (), ("flag",), size, size), True)))
                 for size in range(4)]
        self.assertTrue(check_cover(sized, "", lists))
        self.assertFalse(check_cover(sized, "", lists[:2] + lists[3:]))
        crossed = ("record", (("a", ("flag",), True), ("b", ("flag",), True), ("c", ("repeat", "a"), True),
                              ("d", ("repeat", "b"), True)))
        other = ("record", (("a", ("flag",), True), ("b", ("flag",), True), ("c", ("repeat", "b"), True),
                            ("d", ("repeat", "a"), True)))
        self.assertTrue(check_cover(crossed, "", [crossed]))
        self.assertFalse(check_cover(crossed, "", [other]))

    def test_very_many_values(self):
        word = ("text", "", "abcdefghijklmnopqrstuvwxyz", 12, 12)
        schema = ("list", (), word, 8, 8)
        for prefix in ("", '["abc', '["abcdefghijkl","'):
            self.assertTrue(check_cover(schema, prefix, narrow(schema, prefix)))
        halves = [("text", "", "abcdefghijklm", 12, 12), ("text", "", "nopqrstuvwxyz", 12, 12)]
        self.assertFalse(check_cover(schema, "", [("list", (), half, 8, 8) for half in halves]))
        starts = [("list", (("text", letter, word[2], 12, 12),), word, 8, 8) for letter in word[2]]
        self.assertTrue(check_cover(schema, "", starts))
        self.assertFalse(check_cover(schema, "", starts[1:]))
        members = [(name, ("integer", 0, 39), True) for name in "abcd"]
        pairs = [tuple((name, ("repeat", other), required) for name, other in zip("efgh", order))
                 for order in ("abcd", "dcba", "bcda") for required in (True, False)]
        for last in pairs:
            schema = ("record", (*members, *last))
            self.assertTrue(check_cover(schema, "", [schema]))
            for other in pairs:
                self.assertIs(check_cover(schema, "", [("record", (*members, *other))]), last == other)

    def test_many_pieces(self):
        numbers = [("just", value) for value in range(800)]
        self.assertTrue(check_cover(("integer", 0, 799), "", numbers))
        self.assertFalse(check_cover(("integer", 0, 799), "", numbers[:-1] + numbers[:1]))
        self.assertFalse(check_cover(("integer", 0, 799), "", numbers[:-2] + [("integer", 797, 799)]))
        row = ("list", (), ("integer", 0, 9), 2, 2)
        rows = [("just", [first, second]) for first in range(10) for second in range(10)]
        self.assertTrue(check_cover(row, "", rows))
        self.assertTrue(check_cover(row, "[3", rows[30:40]))
        self.assertFalse(check_cover(row, "", rows[1:] + rows[-1:]))
        self.assertFalse(check_cover(row, "", rows[:-1] + [("list", (), ("integer", 8, 9), 2, 2)]))

    def test_nothing_is_changed(self):
        schema = ("list", (), ("just", [1, {"a": 2}]), 0, 2)
        pieces = narrow(schema, "[")
        before = copy.deepcopy((schema, pieces))
        self.assertTrue(check_cover(schema=schema, prefix="[", pieces=pieces))
        self.assertEqual(exact(tuple(map(str, (schema, pieces)))), exact(tuple(map(str, before))))
        self.assertTrue(apart(("flag",), ("just", 1)))


if __name__ == "__main__":
    unittest.main()
