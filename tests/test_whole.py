"""The whole document once more: alternatives of one form, strange characters, errors in their order, ends of bounds."""

import random
import time
import unittest

import samples
import test_automata
import test_certificates
import test_completions
import test_counting
import test_known
import test_narrowing
from soonknown import completions
from soonknown.automata import accepts, automaton, equal, outside
from soonknown.certificates import check_cover, is_witness, witness
from soonknown.console import Console
from soonknown.counting import counts, longest_length, shortest_length
from soonknown.errors import (BadCommand, BadDocument, BadPrefix, BadSchema, NoRoom, NoSuchCompletion, NotOffered,
                              SchemaError,
                              TooManyStates)
from soonknown.known import known
from soonknown.languages import Language
from soonknown.menders import Mender
from soonknown.narrowing import narrow
from soonknown.reader import Reader
from soonknown.schemas import apart, fits, is_schema
from soonknown.texts import parse_schema, schema_text
from soonknown.values import is_value, read_document
from test_knowledge import exact

# Letters and digits of other writings, signs that look like others, and signs that stand nowhere.
STRANGE = ["\u00e9", "\u0430", "\uff41", "\u0660", "\u0663", "\uff11", "\u00b2", "\u2167", "\u00bd", "A", "Z", "_",
           "'", " ", "\n",
           "\t", "\0", "\x7f", "\u00a0", "\u200b", "\u2028", "\U0001d7d9", "\U0001f600", "\ud800", "+", ".", "e", "E",
           "\\", "/"]


def integers_apart(source):
    """Integer schemas and justs with integers, pairwise apart."""
    ends = sorted(source.sample([-120, -101, -100, -99, -12, -10, -9, -2, -1, 0, 1, 2, 9, 10, 11, 19, 20, 99, 100, 101,
                                 115], 6))
    found = [("integer", ends[0], ends[1]), ("integer", ends[2], ends[3]), ("integer", ends[4], ends[5]),
             ("just", ends[5] + 1)]
    return [part for part in found if part[0] == "just" or part[2] - part[1] < 40][:source.choice([2, 3, 4])]


def texts_apart(source):
    """Schemas of strings, pairwise apart."""
    rows = [[("text", "a", "ab", 1, 3), ("text", "b", "ab", 2, 3), ("text", "ca", "b", 2, 4),
             ("choice", ("", "d", "da"))],
            [("text", "", "a", 0, 2), ("text", "", "b", 1, 3), ("text", "ab", "c", 2, 4), ("just", "ba")],
            [("text", "", "ab", 0, 1), ("text", "", "ab", 2, 2), ("text", "", "ab", 3, 4)],
            [("choice", ("a", "ab")), ("choice", ("aa", "b")), ("choice", ("", "abc")), ("text", "abcd", "a", 4, 6)]]
    return source.choice(rows)


def lists_apart(source, item):
    """Schemas of lists, pairwise apart."""
    rows = [[("list", (), item, 0, 1), ("list", (), ("flag",), 2, 2), ("just", [1, 2, 3])],
            [("list", (("just", 1),), item, 1, 2), ("list", (("just", 12),), item, 1, 2),
             ("list", (("flag",),), item, 1, 2)],
            [("list", (item, ("integer", 0, 3)), ("flag",), 2, 3),
             ("list", (item, ("integer", 4, 30)), ("flag",), 2, 2)],
            [("just", []), ("just", [True]), ("just", [1]), ("list", (("choice", ("a", "b")),), item, 1, 2)]]
    return source.choice(rows)


def records_apart(source, item):
    """Schemas of records, pairwise apart."""
    number = ("integer", 0, 2)
    linked = ("record", (("a", number, True), ("b", ("repeat", "a"), True), ("c", item, False)))
    sized = ("record", (("a", ("integer", 3, 4), True), ("b", ("sized", ("just", 0), "a"), True)))
    rows = [[linked, sized, ("just", {})],
            [("record", (("a", item, True),)), ("record", (("b", item, True), ("c", ("flag",), False)))],
            [("record", (("a", ("just", 1), True), ("b", item, False))),
             ("record", (("a", ("just", 12), True), ("b", item, False))),
             ("record", (("b", item, False), ("c", ("flag",), False)))],
            [linked, ("record", (("a", ("flag",), True), ("b", ("repeat", "a"), False))), ("just", {"b": 1})]]
    return source.choice(rows)


def alternatives_of_one_form(source, depth):
    """An either with alternatives of one form or of a few, some of them with such eithers inside."""
    is_deeper = depth > 1 and source.random() < 0.5
    item = alternatives_of_one_form(source, depth - 1) if is_deeper else samples.random_plain(source)
    parts = source.choice([integers_apart, texts_apart, lambda one: lists_apart(one, item),
                           lambda one: records_apart(one, item)])
    found = list(parts(source))
    if len(found) < 4 and source.random() < 0.3:
        found.append(source.choice([("flag",), ("just", {"zz": 1}), ("integer", 500, 520)]))
    source.shuffle(found)
    if len(found) == 1:
        return found[0]
    schema = ("either", tuple(found[:5]))
    around = source.random()
    if around < 0.15:
        return ("list", (), schema, 0, 2)
    return ("record", (("n", schema, True), ("o", schema, False))) if around < 0.25 else schema


def schemas_of_one_form(source, many, most):
    """So many such schemas with at most so many values."""
    found = []
    while len(found) < many:
        schema = alternatives_of_one_form(source, 3)
        if is_schema(schema) and samples.most_values(schema) <= most:
            found.append(schema)
    return found


class AlternativesOfOneForm(unittest.TestCase):
    def test_completions(self):
        source = random.Random(191)
        helper = test_completions.AgainstAllDocuments("check")
        for schema in schemas_of_one_form(source, 50, 120):
            documents = samples.documents_of(schema)
            for prefix in samples.some_prefixes(source, documents, 2):
                position = samples.prefix_refused_at(documents, prefix)
                if position is not None:
                    helper.check_bad_prefix(schema, prefix, position)
                    continue
                for limit in {None, len(source.choice(documents)), len(documents[0]) - 1, 400}:
                    helper.check(schema, documents, prefix, limit)
                    helper.check_rank(schema, documents, prefix, limit)
            for number, document in enumerate(documents):
                self.assertEqual(completions.completion(schema, "", number), document)
                self.assertEqual(completions.rank(schema, document), number)

    def test_counting_and_narrowing(self):
        source = random.Random(192)
        counting, narrowing = test_counting.Counting("check"), test_narrowing.Narrowing("check")
        for schema in schemas_of_one_form(source, 150, 200):
            documents = samples.documents_of(schema)
            counting.check(schema, (0, 3, 400))
            for prefix in samples.some_prefixes(source, documents, 2):
                pieces = narrowing.check(schema, documents, prefix)
                self.assertTrue(check_cover(schema, prefix, pieces))
                self.assertEqual(check_cover(schema, prefix, pieces[1:]), pieces == [])

    def test_knowledge_and_witnesses(self):
        source = random.Random(193)
        knowing, witnesses = test_known.Known("check"), test_certificates.Witnesses("check")
        knowing.setUp()
        for schema in schemas_of_one_form(source, 80, 80):
            values = {samples.plain_document(value): value for value in samples.values_of(schema)}
            documents = sorted(values)
            prefixes = [prefix for prefix in samples.some_prefixes(source, documents, 1)
                        if samples.prefix_refused_at(documents, prefix) is None]
            knowing.check_schema(source, schema, prefixes)
            for prefix in prefixes:
                going_on = {document: values[document] for document in documents if document.startswith(prefix)}
                for limit in {None, min(map(len, going_on)) + 2}:
                    witnesses.check(source, schema, going_on, prefix, limit)

    def test_automata_and_texts(self):
        source = random.Random(194)
        schemas = schemas_of_one_form(source, 120, 200)
        for schema in schemas:
            documents = samples.documents_of(schema)
            self.assertEqual(automaton(schema), test_automata.least_automaton(documents))
            self.assertEqual(exact(parse_schema(schema_text(schema))), exact(schema))
            self.assertEqual(Language.of(schema), Language.listed(documents))
            for value in samples.values_of(schema)[:20]:
                self.assertTrue(fits(schema, value))
            other = source.choice(schemas)
            ours, others = set(documents), set(samples.documents_of(other))
            missing = sorted(ours - others, key=lambda text: (len(text), text))
            self.assertEqual(outside(schema, other), missing[0] if missing else None)
            self.assertIs(equal(schema, other), ours == others)
            if apart(schema, other):
                self.assertFalse(ours & others)

    def test_readers(self):
        source = random.Random(195)
        for schema in schemas_of_one_form(source, 60, 100):
            documents = samples.documents_of(schema)
            document = source.choice(documents)
            reader = Reader(schema)
            for at, sign in enumerate(document):
                going_on = [other for other in documents if other.startswith(document[:at])]
                self.assertEqual(reader.offered(), sorted({other[at] for other in going_on if len(other) > at}))
                reader.feed(sign)
                self.assertEqual(exact(reader.known()), exact(known(schema, document[:at + 1])))
            self.assertEqual(samples.plain_document(reader.value()), document)


class CharactersOfNoDocument(unittest.TestCase):
    SCHEMAS = [("integer", 0, 199), ("flag",), ("text", "a", "abe", 1, 5), ("choice", ("a", "ab", "e")),
               ("list", (), ("integer", 0, 12), 0, 3),
               ("record", (("a", ("flag",), False), ("e", ("integer", -5, 5), True))),
               ("just", [1, "ae", {"a": -1}]),
               ("either", (("integer", 0, 9), ("text", "", "ab", 0, 2), ("list", (), ("flag",), 0, 1)))]

    def texts(self, source, schema):
        """(text, index of the strange character in it)."""
        for document in source.choices(samples.documents_of(schema), k=2):
            for at in range(len(document) + 1):
                sign = source.choice(STRANGE)
                if not any(other.startswith(document[:at] + sign) for other in samples.documents_of(schema)):
                    yield document[:at] + sign + document[at:], at

    def test_every_function(self):
        source = random.Random(196)
        for schema in self.SCHEMAS * 3:
            for text, at in self.texts(source, schema):
                for call in (completions.offered, completions.forced_text, completions.count, completions.shortest,
                             known):
                    self.refused(lambda: call(schema, text, limit=source.choice([None, 0, 400])), BadPrefix, at)
                self.refused(lambda: completions.completion(schema, text, -1), BadPrefix, at)
                self.refused(lambda: completions.rank(schema, text), BadDocument, at)
                self.refused(lambda: witness(schema, text, ()), BadPrefix, at)
                self.refused(lambda: is_witness(schema, text, (), None), BadPrefix, at)
                self.assertIs(completions.has_completion(schema, text), False)
                self.assertIs(completions.is_complete(schema, text), False)
                self.assertEqual(narrow(schema, text), [])
                self.assertIs(check_cover(schema, text, []), True)
                self.assertIs(check_cover(schema, text, [schema]), False)
                self.assertIs(accepts(automaton(schema), text), False)
                self.assertIs(text in Language.of(schema), False)
                reader = Reader(schema)
                self.refused(lambda: reader.feed(text), NotOffered, at)
                self.assertEqual(reader.text(), "")
                console = Console()
                console.say("schema " + schema_text(schema))
                self.refused(lambda: console.say("feed " + text), NotOffered, at)
                self.assertEqual(console.say("text"), "")
                mender = Mender(Language.of(schema))
                self.assertEqual([cost > 0 for cost in mender.feed(text)], [place >= at for place in range(len(text))])

    def refused(self, call, error, position):
        with self.assertRaises(error) as caught:
            call()
        self.assertEqual(caught.exception.position, position)

    def test_documents(self):
        for document in ('[12,{"ab":"cd"}]', "-105", "true", '"abz"', "{}"):
            for at in range(len(document) + 1):
                for sign in STRANGE:
                    text = document[:at] + sign + document[at:]
                    wrong = samples.refused_at(text)
                    if wrong < len(text) or not samples.is_document(text):
                        self.refused(lambda: read_document(text), BadDocument, wrong)
        for sign in STRANGE:
            if sign != "e":
                self.assertFalse(is_value(sign) or is_value({sign: 1}) or is_schema(("choice", (sign,))))
                self.assertFalse(is_schema(("text", sign, "a", 1, 2)) or is_schema(("text", "", sign, 0, 1)))
                self.assertFalse(is_schema(("record", ((sign, ("flag",), True),))))
                self.refused(lambda: parse_schema(sign), BadSchema, 0)
                for command in (sign, "text" + sign, "back " + sign, "back 1" + sign, "pick " + sign, "limit " + sign,
                                "known ." + sign, "known .a" + sign, "known " + sign):
                    if command != "known .":
                        with self.assertRaises(BadCommand):
                            Console().say(command)


class ErrorsInOrder(unittest.TestCase):
    def outcome(self, call):
        try:
            return call()
        except SchemaError as error:
            return type(error), list(vars(error).values())

    def test_prefix_then_room_then_number(self):
        schema = ("list", (), ("flag",), 1, 2)
        calls = [lambda prefix, limit: completions.completion(schema, prefix, 10 ** 9, limit=limit),
                 lambda prefix, limit: witness(schema, prefix, None, limit=limit),
                 lambda prefix, limit: is_witness(schema, prefix, None, None, limit=limit),
                 lambda prefix, limit: known(schema, prefix, limit=limit)]
        for call in calls:
            self.assertEqual(self.outcome(lambda: call("[tx", 0)), (BadPrefix, [2]))
            self.assertEqual(self.outcome(lambda: call(None, 0)), (BadPrefix, [0]))
            self.assertEqual(self.outcome(lambda: call("[t", 0)), (NoRoom, [6]))
            self.assertEqual(self.outcome(lambda: call("[t", 5)), (NoRoom, [6]))
            self.assertEqual(self.outcome(lambda: call("[true,f", 6)), (NoRoom, [12]))
        self.assertEqual(self.outcome(lambda: calls[0]("[t", 6)), (NoSuchCompletion, [1]))
        self.assertEqual(self.outcome(lambda: completions.rank(schema, "[tx", limit=0)), (BadDocument, [2]))
        self.assertEqual(self.outcome(lambda: completions.rank(schema, "[true]", limit=5)), (BadDocument, [6]))
        self.assertEqual(self.outcome(lambda: completions.rank(schema, "[true", limit=0)), (BadDocument, [5]))

    def test_a_call_that_raises_changes_nothing(self):
        schema = ("list", (("just", [1]),), ("flag",), 1, 2)
        before = exact(schema)
        reader = Reader(schema, limit=400)
        reader.feed("[[1]")
        for call in (lambda: reader.feed(",x"), lambda: reader.back(5), lambda: reader.with_limit(4),
                     lambda: Reader(schema, limit=3)):
            self.assertIsInstance(self.outcome(call), tuple)
            self.assertEqual([reader.text(), reader.offered(), exact(schema)], ["[[1]", [",", "]"], before])

    def test_too_many_states(self):
        for first, second in ((("flag",), ("integer", 0, 9)), (("integer", 0, 9), ("flag",)), (("flag",), ("flag",))):
            for call in (outside, equal):
                self.assertEqual(self.outcome(lambda: call(first, second, bound=7)), (TooManyStates, [7]))
                self.assertNotIsInstance(self.outcome(lambda: call(first, second, bound=8)), tuple)


class EndsOfBounds(unittest.TestCase):
    def deep(self, schema, levels):
        for level in range(levels):
            schema = ("list", (), schema, 1, 1) if level != 2 else ("record", (("a", schema, True),))
        return schema

    def test_depths(self):
        for inner in (("flag",), ("integer", 0, 12), ("text", "", "ab", 0, 1), ("just", 7),
                      ("either", (("just", 1), ("just", 12), ("flag",)))):
            schema = self.deep(inner, 5)
            self.assertTrue(is_schema(schema))
            self.assertFalse(is_schema(("list", (), schema, 0, 1)))
            documents = samples.documents_of(schema)
            self.assertEqual(completions.count(schema, ""), len(documents))
            self.assertEqual(automaton(schema), test_automata.least_automaton(documents))
            for number, document in enumerate(documents):
                self.assertEqual(completions.completion(schema, "", number), document)
                self.assertTrue(fits(schema, read_document(document)))
                self.assertEqual(samples.plain_document(read_document(document)), document)
                reader = Reader(schema, limit=len(document))
                for sign in document:
                    self.assertIn(sign, reader.offered())
                    reader.feed(sign)
                self.assertEqual(samples.plain_document(reader.value()), document)
                for cut in range(len(document) + 1):
                    narrowed = narrow(schema, document[:cut])
                    self.assertTrue(check_cover(schema, document[:cut], narrowed))
                    self.assertEqual(sum(sum(counts(piece, 60)) for piece in narrowed),
                                     completions.count(schema, document[:cut]))
            self.assertEqual(exact(parse_schema(schema_text(schema))), exact(schema))

    def test_a_list_at_the_sixth_level(self):
        for value in ([[[[[[]]]]]], [[[[[{}]]]]], {"a": [[[[[]]]]]}):
            self.assertTrue(is_value(value))
            self.assertFalse(is_value([value]))
            self.assertTrue(is_schema(("just", value)))
            self.assertFalse(is_schema(("list", (), ("just", value), 0, 1)))
            document = samples.plain_document(value)
            self.assertEqual(read_document(document), value)
            self.assertEqual(parse_schema("= " + document), ("just", value))
            with self.assertRaises(BadDocument):
                read_document("[" + document + "]")
            self.assertEqual([completions.count(("just", value), document[:4]), len(automaton(("just", value)))],
                             [1, len(document) + 1])

    def test_lists_of_the_greatest_length(self):
        for item in (("just", 7), ("flag",), ("text", "", "ab", 0, 1), ("just", [[1], "a"])):
            schema = ("list", (), item, 0, 8)
            each = len(samples.values_of(item))
            self.assertEqual(completions.count(schema, ""), sum(each ** size for size in range(9)))
            last = completions.completion(schema, "", completions.count(schema, "") - 1)
            self.assertEqual(completions.rank(schema, last), completions.count(schema, "") - 1)
            longest = samples.plain_document([samples.values_of(item)[0]] * 8)
            reader = Reader(schema, limit=min(400, len(longest)))
            reader.feed(longest)
            self.assertEqual([reader.offered(), len(reader.value())], [[], 8])
            reader.back(1)
            self.assertEqual(reader.offered(), ["]"])
            with self.assertRaises(NotOffered) as caught:
                reader.feed(",")
            self.assertEqual(caught.exception.position, len(longest) - 1)
            self.assertEqual([shortest_length(schema), longest_length(schema)],
                             [2, max(len(samples.plain_document([value] * 8)) for value in samples.values_of(item))])

    def test_limits_at_their_ends(self):
        word = ("text", "", "ab", 0, 12)
        schema = ("list", (("list", (), word, 8, 8), ("list", (), word, 8, 8)), ("list", (), word, 8, 8), 2, 8)
        longest = samples.plain_document([["b" * 12] * 8] * 3)
        self.assertEqual(len(longest), 367)
        least = shortest_length(schema)
        for limit in (0, least - 1):
            with self.assertRaises(NoRoom) as caught:
                completions.count(schema, "", limit=limit)
            self.assertEqual(caught.exception.length, least)
        for limit in (least, least + 1, 366, 367, 400, None):
            many = completions.count(schema, "", limit=limit)
            for number in (0, many // 2, many - 1):
                document = completions.completion(schema, "", number, limit=limit)
                self.assertTrue(limit is None or len(document) <= limit)
                self.assertEqual(completions.rank(schema, document, limit=limit), number)
            self.assertIs(completions.has_completion(schema, longest, limit=limit), limit is None or limit >= 367)

    def test_long_documents(self):
        begin = time.perf_counter()
        word = ("text", "", "abcdefghijklmnopqrstuvwxyz", 0, 12)
        number = ("either", (("integer", -10 ** 9, -1), ("integer", 0, 5), ("integer", 7, 10 ** 9), word))
        source = random.Random(197)
        for item in (word, number, ("record", (("a", ("integer", 0, 8), True), ("b", ("sized", number, "a"), True),
                                               ("c", ("repeat", "a"), False)))):
            schema = ("list", (), ("list", (), ("list", (), item, 0, 8), 0, 8), 0, 8)
            many = completions.count(schema, "")
            for place in (many // 3, many - 1, source.randrange(many)):
                document = completions.completion(schema, "", place)
                self.assertEqual(completions.rank(schema, document), place)
                begun = document[:len(document) // 2]
                self.assertEqual(completions.completion(schema, begun, 0)[:len(begun)], begun)
                self.assertGreater(completions.count(schema, begun), 0)
        self.assertLess(time.perf_counter() - begin, 60)

    def test_neighbours_in_order(self):
        source = random.Random(198)
        for schema in schemas_of_one_form(source, 40, 10 ** 9):
            schema = ("list", (), ("record", (("a", schema, True), ("b", ("list", (), schema, 0, 3), False))), 0, 4)
            many = completions.count(schema, "")
            for _ in range(8):
                place = source.randrange(many - 1)
                first, second = [completions.completion(schema, "", place + more) for more in (0, 1)]
                self.assertLess(first, second)
                self.assertEqual([completions.rank(schema, text) for text in (first, second)], [place, place + 1])


if __name__ == "__main__":
    unittest.main()
