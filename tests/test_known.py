"""The knowledge after a prefix, against the knowledge of all completions."""

import copy
import random
import unittest

import samples
from soonknown.errors import BadPrefix, NoRoom
from soonknown.knowledge import implies, knowledge_of
from soonknown.known import known
from test_knowledge import containers_of, exact

GREATEST = 10 ** 9


class Known(unittest.TestCase):
    def setUp(self):
        self.kept = {}

    def knowledge_of(self, values):
        """The knowledge of the values of a dict from documents, kept as many prefixes have the same ones."""
        key = " ".join(values)
        if key not in self.kept:
            self.kept[key] = exact(knowledge_of(list(values.values())))
        return self.kept[key]

    def check(self, schema, values, prefix, limit):
        """Compare the knowledge for values, a dict from the documents that go on from the prefix."""
        fitting = {document: values[document] for document in values if limit is None or len(document) <= limit}
        if fitting:
            found = known(schema, prefix, limit=limit)
            self.assertEqual(exact(found), self.knowledge_of(fitting), (schema, prefix, limit))
            return found
        with self.assertRaises(NoRoom) as caught:
            known(schema, prefix, limit=limit)
        self.assertEqual(caught.exception.length, min(len(document) for document in values))
        return None

    def check_schema(self, source, schema, prefixes):
        values = {samples.plain_document(value): value for value in samples.values_of(schema)}
        documents = sorted(values)
        for prefix in prefixes or samples.some_prefixes(source, documents, 2):
            position = samples.prefix_refused_at(documents, prefix)
            if position is not None:
                self.check_bad_prefix(schema, prefix, position)
                continue
            going_on = {document: values[document] for document in documents if document.startswith(prefix)}
            lengths = sorted({len(document) for document in going_on})
            before = self.check(schema, going_on, prefix, None)
            # From the longest one on to the first limit that is too small.
            limits = {length - less for length in lengths for less in (0, 1)} | {lengths[0] + 3}
            limits = {lengths[0], lengths[0] - 1} | set(source.sample(sorted(limits), min(len(limits), 10)))
            for limit in sorted(limits, reverse=True):
                after = self.check(schema, going_on, prefix, limit)
                if after is not None:
                    self.assertTrue(implies(after, before))
                    before = after

    def check_bad_prefix(self, schema, prefix, position):
        for limit in (None, 0, 400):
            with self.assertRaises(BadPrefix) as caught:
                known(schema, prefix, limit=limit)
            self.assertEqual(caught.exception.position, position)

    def test_small_schemas_of_every_form(self):
        source = random.Random(71)
        for schema in samples.small_schemas(source, 500, 60):
            self.check_schema(source, schema, None)
        for schema in samples.small_schemas(source, 60, 250):
            prefixes = samples.some_prefixes(source, samples.documents_of(schema), 1)
            self.check_schema(source, schema, source.sample(prefixes, min(len(prefixes), 12)))

    def test_sizes_and_repeated_members(self):
        number = ("integer", 7, 12)
        size = ("integer", 0, 3)
        flag = ("flag",)
        source = random.Random(72)
        for members in (
                (("a", number, True), ("b", ("repeat", "a"), False), ("c", ("repeat", "a"), True)),
                (("a", size, True), ("b", ("sized", flag, "a"), True), ("c", ("repeat", "a"), False)),
                (("a", size, True), ("b", ("sized", ("integer", 8, 10), "a"), False), ("c", flag, False)),
                (("a", flag, True), ("b", size, True), ("c", ("repeat", "a"), False), ("d", ("repeat", "b"), False)),
                (("a", ("choice", ("", "ab", "ac")), True), ("b", ("repeat", "a"), False), ("c", ("just", 5), False)),
                (("a", ("just", 2), True), ("b", ("sized", size, "a"), False), ("c", ("repeat", "a"), False)),
                (("a", size, True), ("b", ("sized", ("list", (), flag, 0, 1), "a"), True))):
            self.check_schema(source, ("record", members), None)
            self.check_schema(source, ("list", (), ("record", members), 0, 1), None)

    def test_the_greatest_integers(self):
        for least, greatest in ((GREATEST - 30, GREATEST), (-GREATEST, 30 - GREATEST)):
            self.check_schema(random.Random(73), ("integer", least, greatest), None)
        everything = ("integer", -GREATEST, GREATEST)
        self.assertEqual(known(everything, ""), everything)
        self.assertEqual(known(everything, "-"), ("integer", -GREATEST, -1))
        self.assertEqual(known(everything, "1"), ("integer", 1, GREATEST))
        self.assertEqual(known(everything, "-1"), ("integer", -GREATEST, -1))
        self.assertEqual(known(everything, "2"), ("integer", 2, 299999999))
        self.assertEqual(known(everything, "1000000000"), ("value", GREATEST))
        self.assertEqual(known(everything, "100000000"), ("integer", 100000000, GREATEST))
        for size in range(1, 13):
            high = min(10 ** size - 1, GREATEST)
            low = -min(10 ** (size - 1) - 1, GREATEST)
            self.assertEqual(known(everything, "", limit=size), ("integer", low, high))
        self.assertEqual(known(("integer", -GREATEST, -GREATEST), "", limit=11), ("value", -GREATEST))
        self.assertEqual(known(("integer", -15, -3), "", limit=2), ("integer", -9, -3))
        self.assertEqual(known(("integer", -15, 0), "", limit=1), ("value", 0))

    def test_texts(self):
        self.assertEqual(known(("text", "a", "b", 3, 5), ""), ("string", "abb", 3, 5))
        self.assertEqual(known(("text", "a", "b", 3, 5), "", limit=5), ("value", "abb"))
        self.assertEqual(known(("text", "a", "bc", 3, 5), "", limit=6), ("string", "a", 3, 4))
        self.assertEqual(known(("text", "ab", "bc", 2, 5), "", limit=4), ("value", "ab"))
        self.assertEqual(known(("text", "ab", "bc", 2, 5), '"abb'), ("string", "abb", 3, 5))
        self.assertEqual(known(("text", "ab", "b", 2, 5), '"abb'), ("string", "abb", 3, 5))

    def test_very_many_values(self):
        word = ("text", "", "abcdefghijklmnopqrstuvwxyz", 0, 12)
        told = ("string", "", 0, 12)
        deep = word
        for _ in range(5):
            deep = ("list", (), deep, 8, 8)
            told = ("list", 8, 8, (told,) * 8)
        self.assertEqual(known(deep, ""), told)
        least = ("list", (), ("list", (), word, 2, 8), 2, 8)
        # The shortest one has 17 characters: of six more, all may go to one item.
        item = ("list", 2, 4, (("string", "", 0, 6),) * 2)
        self.assertEqual(known(least, "", limit=17), ("value", [["", ""], ["", ""]]))
        self.assertEqual(known(least, "", limit=23), ("list", 2, 2, (item, item)))
        self.assertEqual(known(least, "", limit=25), ("list", 2, 3, (
            ("list", 2, 4, (("string", "", 0, 8),) * 2),) * 2))
        members = tuple((name, ("integer", -GREATEST, GREATEST), name < "c") for name in "abcdefgh")
        digit = ("integer", 0, 9)
        both = (("a", "always", digit), ("b", "always", digit))
        self.assertEqual(known(("record", members), "", limit=13), ("record", both))
        self.assertEqual(known(("record", members), "", limit=18)[1][2:], ())
        longer = ("integer", -999999, 9999999)
        self.assertEqual(known(("record", members), "", limit=19), ("record", (
            ("a", "always", longer), ("b", "always", longer), *((name, "sometimes", digit) for name in "cdefgh"))))

    def test_prefixes_that_are_no_strings(self):
        for thing in (None, 5, True, [], ["1"], {}, ("1",)):
            self.check_bad_prefix(("flag",), thing, 0)
        self.check_bad_prefix(("flag",), "x", 0)
        self.check_bad_prefix(("list", (), ("flag",), 0, 2), "[true,fals}", 10)
        self.check_bad_prefix(("flag",), "true ", 4)

    def test_more_text_and_a_smaller_limit_take_nothing_back(self):
        source = random.Random(74)
        for schema in samples.small_schemas(source, 60, 100):
            document = source.choice(samples.documents_of(schema))
            for limit in (None, len(document) + source.randint(0, 5)):
                before = known(schema, "", limit=limit)
                for cut in range(1, len(document) + 1):
                    after = known(schema, document[:cut], limit=limit)
                    self.assertTrue(implies(after, before))
                    before = after

    def test_what_is_returned_can_be_changed(self):
        inner = [1, {"a": []}]
        either = ("either", (("just", inner), ("flag",)))
        for schema in (("list", (), ("just", inner), 2, 2), ("list", (), either, 1, 2),
                       ("record", (("a", ("just", inner), True), ("b", ("just", inner), False)))):
            before = copy.deepcopy(schema)
            for prefix in ("", '[[1,{"a":[]}]', "[[1", '{"a":[1'):
                if prefix[:1] in ("", samples.documents_of(schema)[0][0]):
                    told = known(schema=schema, prefix=prefix, limit=None)
                    lists = containers_of(told)
                    self.assertEqual(len({id(thing) for thing in lists + containers_of(inner)}), len(lists) + 3)
                    first = exact(told)
                    for thing in lists:
                        thing.clear()
                    self.assertEqual(exact(known(schema, prefix)), first)
                    self.assertEqual(exact(schema), exact(before))
        with self.assertRaises(TypeError):
            known(("flag",), "", 5)


if __name__ == "__main__":
    unittest.main()
