"""Readers, against what is known of each text by itself."""

import copy
import random
import unittest

import samples
from soonknown.completions import is_complete, offered
from soonknown.counting import shortest_length
from soonknown.errors import NoRoom, NotOffered, TooFar
from soonknown.known import known
from soonknown.reader import Reader
from test_knowledge import THINGS, containers_of, exact, plain_paths


def plain_events(before, after):
    """The events of a character, from all paths before and after it."""
    earlier, later = dict(plain_paths(before)), dict(plain_paths(after))
    found = []
    for path in sorted(set(earlier) | set(later)):
        if path not in later:
            found.append((path, None))
        elif path not in earlier or exact(earlier[path]) != exact(later[path]):
            found.append((path, later[path]))
    return found


def plain_settled_at(schema, text, limit, path):
    for read in range(len(text) + 1):
        told = dict(plain_paths(known(schema, text[:read], limit=limit))).get(path)
        if told is not None and told[0] == "value":
            return read
    return None


def some_limits(source, schema, document):
    return [None, len(document), min(400, len(document) + source.randint(0, 8))]


class Readers(unittest.TestCase):
    def same(self, first, second):
        self.assertEqual(exact(first), exact(second))

    def check_like_new(self, reader, schema, text, limit):
        """Compare a reader with a new one that is fed its text, and with the functions."""
        new = Reader(schema, limit=limit)
        new.feed(text)
        self.assertTrue(reader == new and new == reader)
        self.assertFalse(reader != new)
        self.assertEqual([reader.text(), len(reader)], [text, len(text)])
        self.same(reader.known(), known(schema, text, limit=limit))
        self.assertEqual(reader.offered(), offered(schema, text, limit=limit))
        self.assertIs(reader.is_complete(), is_complete(schema, text))
        if is_complete(schema, text):
            self.assertEqual(samples.plain_document(reader.value()), text)
        else:
            self.assertIsNone(reader.value())

    def test_the_events_of_each_character(self):
        source = random.Random(91)
        for schema in samples.small_schemas(source, 120, 100):
            document = source.choice(samples.documents_of(schema))
            for limit in some_limits(source, schema, document):
                reader, whole, pieces = [Reader(schema, limit=limit) for _ in range(3)]
                events, at = [], source.randint(0, len(document))
                for cut in range(len(document)):
                    told = reader.feed(document[cut])
                    before = known(schema, document[:cut], limit=limit)
                    self.same(told, plain_events(before, known(schema, document[:cut + 1], limit=limit)))
                    events += told
                self.same(whole.feed(document), events)
                self.same(pieces.feed(document[:at]) + pieces.feed("") + pieces.feed(document[at:]), events)
                self.check_like_new(reader, schema, document, limit)

    def test_a_character_that_is_not_offered(self):
        source = random.Random(92)
        for schema in samples.small_schemas(source, 120, 100):
            document = source.choice(samples.documents_of(schema))
            for limit in some_limits(source, schema, document):
                reader = Reader(schema, limit=limit)
                first = source.randint(0, len(document))
                reader.feed(document[:first])
                before = reader.known()
                at = source.randint(first, len(document))
                for sign in '019-,]}"abtz {:':
                    if sign not in offered(schema, document[:at], limit=limit):
                        with self.assertRaises(NotOffered) as caught:
                            reader.feed(document[first:at] + sign + document[at:])
                        self.assertEqual(caught.exception.position, at)
                        self.assertEqual(reader.text(), document[:first])
                        self.same(reader.known(), before)
                reader.feed(document[first:])
                self.check_like_new(reader, schema, document, limit)

    def test_back(self):
        source = random.Random(93)
        for schema in samples.small_schemas(source, 60, 100):
            document = source.choice(samples.documents_of(schema))
            for many in (0, 1, source.randint(0, len(document)), len(document)):
                if many <= len(document):
                    reader = Reader(schema)
                    events = reader.feed(document)
                    for wrong in (len(document) + 1, len(document) + 9, 10 ** 30):
                        with self.assertRaises(TooFar) as caught:
                            reader.back(wrong)
                        self.assertEqual(caught.exception.number, wrong)
                    self.assertIsNone(reader.back(many))
                    self.check_like_new(reader, schema, document[:len(document) - many], None)
                    reader.feed(document[len(document) - many:])
                    self.check_like_new(reader, schema, document, None)
                    reader.back(len(document))
                    self.same(reader.feed(document), events)

    def test_settled_at(self):
        source = random.Random(94)
        for schema in samples.small_schemas(source, 60, 60):
            document = source.choice(samples.documents_of(schema))
            for limit in some_limits(source, schema, document):
                for cut in {len(document), source.randint(0, len(document))}:
                    reader = Reader(schema, limit=limit)
                    reader.feed(document[:cut])
                    told = plain_paths(reader.known())
                    for path, part in told:
                        want = plain_settled_at(schema, document[:cut], limit, path) if part[0] == "value" else None
                        self.assertEqual(reader.settled_at(path), want)
                    for thing in THINGS + [list(path) for path, _ in told] + [path + (True,) for path, _ in told]:
                        if not isinstance(thing, tuple) or True in thing or thing not in [path for path, _ in told]:
                            self.assertIsNone(reader.settled_at(thing))

    def test_settled_at_of_a_member_that_is_gone(self):
        schema = ("record", (("a", ("just", 1), False), ("b", ("flag",), True)))
        reader = Reader(schema)
        self.assertEqual([reader.settled_at(("a",)), reader.settled_at(("b",))], [0, None])
        reader.feed('{"b":t')
        self.assertEqual([reader.settled_at(("a",)), reader.settled_at(("b",)), reader.settled_at(())], [None, 6, 6])

    def test_histories_of_many_calls(self):
        source = random.Random(95)
        for schema in samples.small_schemas(source, 40, 100):
            states = [(Reader(schema), "", None)]
            for _ in range(40):
                at = source.randrange(len(states))
                reader, text, limit = states[at]
                step = source.choice(["feed", "feed", "feed", "back", "fork", "limit", "wrong"])
                if step == "feed":
                    signs = reader.offered()
                    if signs:
                        sign = source.choice(signs)
                        reader.feed(sign)
                        text += sign
                elif step == "back":
                    many = source.randint(0, min(len(text), 3))
                    reader.back(many)
                    text = text[:len(text) - many]
                elif step == "fork":
                    states.append((reader.fork(), text, limit))
                elif step == "limit":
                    states.extend(self.with_other_limit(source, schema, reader, text))
                else:
                    with self.assertRaises(NotOffered) as caught:
                        reader.feed((reader.offered() or [""])[0] + "?")
                    self.assertEqual(caught.exception.position, len(text) + (reader.offered() != []))
                states[at] = (reader, text, limit)
            for reader, text, limit in states[:12]:
                self.check_like_new(reader, schema, text, limit)

    def with_other_limit(self, source, schema, reader, text):
        limit = source.choice([None, len(text), len(text) + 1, len(text) + 4, 400, 0])
        fitting = [len(document) for document in samples.documents_of(schema) if document.startswith(text)]
        if limit is None or min(fitting) <= limit:
            return [(reader.with_limit(limit), text, limit)]
        with self.assertRaises(NoRoom) as caught:
            reader.with_limit(limit)
        self.assertEqual(caught.exception.length, min(fitting))
        return []

    def test_no_room(self):
        for schema in samples.small_schemas(random.Random(96), 60, 100):
            least = shortest_length(schema)
            for limit in range(least):
                with self.assertRaises(NoRoom) as caught:
                    Reader(schema, limit=limit)
                self.assertEqual(caught.exception.length, least)
            self.assertEqual(Reader(schema, limit=least).text(), "")


class Equality(unittest.TestCase):
    def test_schemas_limits_and_texts(self):
        one = ("list", (("just", 1),), ("flag",), 1, 2)
        schemas = [one, ("list", (("just", True),), ("flag",), 1, 2), ("list", (("just", 1),), ("flag",), 1, 3),
                   ("list", (("integer", 1, 1),), ("flag",), 1, 2), ("just", [1]), ("just", [True])]
        for at, schema in enumerate(schemas):
            for place, other in enumerate(schemas):
                self.assertIs(Reader(schema) == Reader(other), at == place)
        self.assertEqual(Reader(("just", {"a": 1, "b": 2})), Reader(("just", {"b": 2, "a": 1})))
        self.assertNotEqual(Reader(one), Reader(one, limit=400))
        self.assertNotEqual(Reader(one, limit=399), Reader(one, limit=400))
        self.assertEqual(Reader(one, limit=399), Reader(one, limit=399))
        reader = Reader(one)
        reader.feed("[1")
        self.assertNotEqual(reader, Reader(one))
        reader.back(1)
        self.assertNotEqual(reader, Reader(one))
        reader.back(1)
        self.assertEqual(reader, Reader(one))

    def test_other_values(self):
        reader = Reader(("flag",))
        deep = ()
        for _ in range(40):
            deep = (deep, deep)
        for thing in (None, 0, "", (), [], {}, ("flag",), deep, True):
            self.assertIs(reader == thing, False)
            self.assertIs(reader != thing, True)


class Copies(unittest.TestCase):
    def test_lists_inside_the_schema(self):
        inner = [1, {"a": [2]}]
        schema = ("list", (), ("just", inner), 1, 2)
        reader = Reader(schema)
        other = reader.fork()
        inner[1]["a"].append(3)
        inner.append(4)
        self.assertEqual(reader, other)
        self.assertEqual(reader.feed('[[1,{"a":[2]}]'), [])
        self.assertEqual(reader.offered(), [",", "]"])
        self.assertNotEqual(reader, Reader(schema))
        self.assertEqual(inner, [1, {"a": [2, 3]}, 4])
        other.feed('[[1,{"a":[2]}]]')
        self.assertEqual(other.value(), [[1, {"a": [2]}]])

    def test_what_is_returned_can_be_changed(self):
        inner = [1, {"a": [2]}]
        reader = Reader(("either", (("list", (), ("just", inner), 1, 2), ("flag",))), limit=400)
        events = reader.feed('[[1,{"a":[2]}],[')
        told = [events, reader.known(), reader.offered(), reader.known()]
        before = exact(tuple(told[1:]))
        lists = [thing for part in told for thing in containers_of(part)]
        self.assertEqual(len({id(thing) for thing in lists + containers_of(inner)}), len(lists) + 3)
        for thing in lists:
            thing.clear()
        self.assertEqual(exact((reader.known(), reader.offered(), reader.known())), before)
        reader.feed('1,{"a":[2]}]]')
        value = reader.value()
        value.clear()
        self.assertEqual(reader.value(), [[1, {"a": [2]}]] * 2)
        self.assertEqual(inner, [1, {"a": [2]}])

    def test_forks_do_not_change_each_other(self):
        reader = Reader(("list", (), ("flag",), 0, 3), limit=30)
        reader.feed("[t")
        other, third = reader.fork(), reader.with_limit(11)
        other.feed("rue,")
        third.back(2)
        reader.feed("rue]")
        self.assertEqual([reader.text(), other.text(), third.text()], ["[true]", "[true,", ""])
        self.assertEqual([reader.value(), other.value()], [[True], None])
        third.feed("[true,")
        self.assertEqual(third.offered(), ["t"])
        self.assertEqual(other.offered(), ["f", "t"])

    def test_names_of_arguments(self):
        reader = Reader(schema=("flag",), limit=5)
        reader.feed(text="fa")
        reader.back(number=1)
        self.assertEqual(reader.with_limit(limit=None).text(), "f")
        self.assertEqual(reader.settled_at(path=()), 1)
        with self.assertRaises(TypeError):
            Reader(("flag",), 5)


if __name__ == "__main__":
    unittest.main()
