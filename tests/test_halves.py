"""Both halves of the document together: languages of schemas against the functions on completions, as [36] says."""

import random
import unittest

import samples
from soonknown import completions
from soonknown.automata import accepts, automaton, equal, outside
from soonknown.changeerrors import NothingBetween
from soonknown.counting import counts
from soonknown.errors import BadPrefix, NoRoom
from soonknown.gaps import Gap
from soonknown.languages import Language
from soonknown.menders import Mender
from soonknown.reader import Reader


def great_schemas():
    """Schemas with very many values and at most 2000 states."""
    word = ("text", "ab", "abcdefghijklmnopqrstuvwxyz", 2, 12)
    size = ("integer", 0, 3)
    return [
        ("list", (), ("list", (), word, 0, 3), 0, 3), ("integer", -10 ** 9, 10 ** 9),
        ("record", tuple((name, ("integer", -10 ** 9, 10 ** 9), name < "c") for name in "abcd")),
        ("record", (("a", size, True), ("b", ("sized", word, "a"), True), ("c", ("repeat", "a"), False))),
        ("either", (("list", (), word, 0, 3), ("list", (), ("flag",), 4, 8), word, ("flag",))),
        ("either", (("integer", 5, 120), ("integer", -7, 4), ("integer", 1000, 10 ** 9), ("text", "a", "bc", 1, 9),
                    ("text", "b", "bc", 1, 9))),
        ("either", (("record", (("a", ("just", 1), True), ("b", word, False))),
                    ("record", (("a", ("just", 12), True), ("b", ("flag",), False))), ("list", (), ("flag",), 0, 2))),
    ]


class Halves(unittest.TestCase):
    def schemas(self, source, many):
        return samples.small_schemas(source, many, 150) + great_schemas()

    def limits(self, source, schema):
        least = completions.shortest(schema, "")
        return [None, len(least), len(least) + 3, source.randint(0, 40), 400]

    def test_texts_and_numbers(self):
        source = random.Random(181)
        for schema in self.schemas(source, 120):
            language = Language.of(schema)
            self.assertEqual(language.count, completions.count(schema, ""))
            self.assertEqual((language.upto(400).lengths() + [0] * 401)[:401], counts(schema, 400))
            for limit in self.limits(source, schema):
                short = language if limit is None else language.upto(limit)
                if not short:
                    self.assertFalse(completions.has_completion(schema, "", limit=limit))
                    continue
                many = completions.count(schema, "", limit=limit)
                self.assertEqual(short.count, many)
                for number in {0, many // 2, many - 1, source.randrange(many)}:
                    text = short[number]
                    self.assertEqual(text, completions.completion(schema, "", number, limit=limit))
                    self.assertEqual(short.rank_of(text), completions.rank(schema, text, limit=limit))
                    for other in (text, text[:-1], text + "0", text + "]", text[1:], text.replace("a", "b")):
                        self.assertIs(other in language, completions.is_complete(schema, other))
                        self.assertIs(other in language, accepts(automaton(schema), other))

    def test_comparisons(self):
        source = random.Random(182)
        schemas = samples.small_schemas(source, 40, 60) + great_schemas()
        for first in schemas:
            for second in source.sample(schemas, 8) + [first]:
                one, other = Language.of(first), Language.of(second)
                if len(one.states()) > 300 or len(other.states()) > 300:
                    continue
                self.assertIs(one == other, equal(first, second))
                text = outside(first, second)
                self.assertIs(one.within(other), text is None)
                rest = one - other
                self.assertIs(bool(rest), text is not None)
                if text is not None:
                    size = len(text)
                    self.assertEqual(rest.upto(size)[0], text)
                    self.assertEqual(rest.lengths()[:size + 1], [0] * size + rest.lengths()[size:size + 1])

    def test_gaps(self):
        source = random.Random(183)
        for schema in self.schemas(source, 80):
            language = Language.of(schema)
            document = language[source.randrange(language.count)]
            prefixes = {"", document, document[:source.randint(0, len(document))], document + "0", "x", "\u0663",
                        document[:source.randint(0, len(document))], document[:-1] + "?"}
            for limit in self.limits(source, schema):
                short = language if limit is None else language.upto(limit)
                for prefix in sorted(prefixes):
                    self.check_gap(schema, short, prefix, limit)

    def check_gap(self, schema, language, prefix, limit):
        """Compare the gap behind a prefix with the completions."""
        try:
            wanted = completions.offered(schema, prefix, limit=limit)
        except (BadPrefix, NoRoom):
            with self.assertRaises(NothingBetween):
                Gap(language, prefix)
            return
        gap = Gap(language, prefix, "")
        self.assertEqual(gap.first, wanted)
        self.assertEqual(gap.forced, completions.forced_text(schema, prefix, limit=limit))
        self.assertIs(gap.closed, completions.is_complete(schema, prefix))
        fitting = gap.fitting()
        many = completions.count(schema, prefix, limit=limit)
        self.assertEqual(fitting.count, many)
        for number in {0, many // 3, many - 1}:
            self.assertEqual(fitting[number], completions.completion(schema, prefix, number, limit=limit))

    def test_menders(self):
        source = random.Random(184)
        for schema in self.schemas(source, 80):
            language = Language.of(schema)
            if len(language.states()) > 300:
                continue
            document = language[source.randrange(language.count)]
            at = source.randint(0, len(document))
            for text in (document, document[:at] + source.choice("?0]}\"a,\u0663") + document[at:],
                         document[:at] + document[at + 1:]):
                mender = Mender(language, put=source.randint(1, 3), drop=source.randint(1, 3),
                                swap=source.randint(1, 5))
                wrong = None
                for cut in range(len(text) + 1):
                    read = text[:cut]
                    self.assertIs(mender.least == 0, completions.has_completion(schema, read))
                    self.assertIs(mender.price == 0, completions.is_complete(schema, read))
                    if mender.least == 0:
                        self.assertEqual(mender.welcome, completions.offered(schema, read))
                    if cut < len(text):
                        before = mender.least
                        mender.feed(text[cut])
                        if wrong is None and mender.least > before:
                            wrong = cut
                if wrong is not None:
                    with self.assertRaises(BadPrefix) as caught:
                        completions.offered(schema, text)
                    self.assertEqual(caught.exception.position, wrong)

    def test_readers(self):
        source = random.Random(185)
        for schema in samples.small_schemas(source, 60, 100):
            language = Language.of(schema)
            document = language[source.randrange(language.count)]
            limit = source.choice([None, len(document), min(400, len(document) + 4)])
            reader, gap = Reader(schema, limit=limit), Gap(language if limit is None else language.upto(limit))
            for sign in document:
                self.assertEqual(reader.offered(), gap.first)
                reader.feed(sign)
                gap.put(sign)
            self.assertIs(gap.closed, reader.is_complete())


if __name__ == "__main__":
    unittest.main()
