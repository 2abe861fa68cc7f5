"""The completions of prefixes, against all documents of small schemas, and for schemas with very many values."""

import random
import unittest

import samples
from soonknown.completions import completion, count, forced_text, has_completion, is_complete, offered, rank, shortest
from soonknown.errors import BadDocument, BadPrefix, NoRoom, NoSuchCompletion

LETTERS = "abcdefghijklmnopqrstuvwxyz"
WORD = ("text", "", LETTERS, 12, 12)


def plain_forced(documents, prefix):
    """The longest text with which all documents go on behind a prefix."""
    first, last = documents[0], documents[-1]
    size = len(prefix)
    while size < min(len(first), len(last)) and first[size] == last[size]:
        size += 1
    return first[len(prefix):size]


class AgainstAllDocuments(unittest.TestCase):
    def check(self, schema, documents, prefix, limit):
        """Compare all functions for a prefix that some document begins with."""
        going_on = [document for document in documents if document.startswith(prefix)]
        fitting = [document for document in going_on if limit is None or len(document) <= limit]
        self.assertEqual(has_completion(schema, prefix, limit=limit), fitting != [])
        if not fitting:
            self.check_no_room(schema, prefix, limit, min(len(document) for document in going_on))
            return
        signs = sorted({document[len(prefix)] for document in fitting if len(document) > len(prefix)})
        self.assertEqual(offered(schema, prefix, limit=limit), signs)
        self.assertEqual(forced_text(schema, prefix, limit=limit), plain_forced(fitting, prefix))
        self.assertEqual(count(schema, prefix, limit=limit), len(fitting))
        self.assertEqual(shortest(schema, prefix, limit=limit), min(fitting, key=len))
        numbers = range(len(fitting)) if len(fitting) < 30 else random.Random(1).sample(range(len(fitting)), 5)
        for number in numbers:
            self.assertEqual(completion(schema, prefix, number, limit=limit), fitting[number])
        for number in (-1, len(fitting), len(fitting) + 5, -10 ** 30):
            with self.assertRaises(NoSuchCompletion) as caught:
                completion(schema, prefix, number, limit=limit)
            self.assertEqual(caught.exception.count, len(fitting))

    def check_no_room(self, schema, prefix, limit, length):
        for function in (offered, forced_text, count, shortest):
            with self.assertRaises(NoRoom) as caught:
                function(schema, prefix, limit=limit)
            self.assertEqual(caught.exception.length, length)
        with self.assertRaises(NoRoom) as caught:
            completion(schema, prefix, 0, limit=limit)
        self.assertEqual(caught.exception.length, length)

    def check_bad_prefix(self, schema, prefix, position):
        for limit in (None, 0, 5, 400):
            for function in (offered, forced_text, count, shortest):
                with self.assertRaises(BadPrefix) as caught:
                    function(schema, prefix, limit=limit)
                self.assertEqual(caught.exception.position, position)
            with self.assertRaises(BadPrefix) as caught:
                completion(schema, prefix, -1, limit=limit)
            self.assertEqual(caught.exception.position, position)
            self.assertIs(has_completion(schema, prefix, limit=limit), False)
            with self.assertRaises(BadDocument) as caught:
                rank(schema, prefix, limit=limit)
            self.assertEqual(caught.exception.position, position)
        self.assertIs(is_complete(schema, prefix), False)

    def check_rank(self, schema, documents, text, limit):
        fitting = [document for document in documents if limit is None or len(document) <= limit]
        if text in fitting:
            self.assertEqual(rank(schema, text, limit=limit), fitting.index(text))
        else:
            with self.assertRaises(BadDocument) as caught:
                rank(schema, text, limit=limit)
            self.assertEqual(caught.exception.position, len(text))

    def test_small_schemas_of_every_form(self):
        source = random.Random(41)
        for schema in samples.small_schemas(source, 80, 100):
            documents = samples.documents_of(schema)
            lengths = sorted({len(document) for document in documents})
            for prefix in samples.some_prefixes(source, documents, 2):
                position = samples.prefix_refused_at(documents, prefix)
                if position is not None:
                    self.check_bad_prefix(schema, prefix, position)
                    continue
                self.assertIs(is_complete(schema, prefix), prefix in documents)
                near = source.choice(lengths)
                for limit in {None, near, near - 1, 0, lengths[0], lengths[-1], 400}:
                    if limit is None or limit <= 400:
                        self.check(schema, documents, prefix, limit)
                        self.check_rank(schema, documents, prefix, limit)

    def test_every_document_has_its_number(self):
        for schema in samples.small_schemas(random.Random(42), 60, 120):
            documents = samples.documents_of(schema)
            for limit in (None, 12, 400):
                for document in documents:
                    self.check_rank(schema, documents, document, limit)

    def test_an_integer_may_be_complete_and_go_on(self):
        schema = ("integer", -12, 112)
        documents = samples.documents_of(schema)
        for prefix in ("", "-", "-1", "1", "11", "112", "0", "9", "10"):
            for limit in (None, 1, 2, 3, 4):
                self.check(schema, documents, prefix, limit)


class WrongArguments(unittest.TestCase):
    THINGS = [None, 5, True, [], ["1"], {}, ("1",), [["1"] * 3] * 3]

    def test_prefixes_that_are_no_strings(self):
        for thing in self.THINGS:
            for limit in (None, 0, 3):
                for function in (offered, forced_text, count, shortest):
                    with self.assertRaises(BadPrefix) as caught:
                        function(("flag",), thing, limit=limit)
                    self.assertEqual(caught.exception.position, 0)
                self.assertIs(has_completion(("flag",), thing, limit=limit), False)
                with self.assertRaises(BadDocument) as caught:
                    rank(("flag",), thing, limit=limit)
                self.assertEqual(caught.exception.position, 0)
            self.assertIs(is_complete(("flag",), thing), False)

    def test_rank_without_any_completion(self):
        with self.assertRaises(BadDocument) as caught:
            rank(("flag",), "true", limit=3)
        self.assertEqual(caught.exception.position, 4)
        with self.assertRaises(BadDocument) as caught:
            rank(("flag",), "", limit=3)
        self.assertEqual(caught.exception.position, 0)
        with self.assertRaises(BadDocument) as caught:
            rank(("flag",), "trux", limit=0)
        self.assertEqual(caught.exception.position, 3)

    def test_bad_prefix_comes_before_no_room_and_that_before_the_number(self):
        with self.assertRaises(BadPrefix):
            completion(("flag",), "x", 7, limit=0)
        with self.assertRaises(NoRoom):
            completion(("flag",), "t", 7, limit=3)
        with self.assertRaises(BadPrefix) as caught:
            count(("flag",), "true,", limit=2)
        self.assertEqual(caught.exception.position, 4)

    def test_names_of_arguments(self):
        schema = ("integer", 0, 12)
        self.assertEqual(completion(number=2, prefix="", schema=schema, limit=None), "10")
        self.assertEqual(rank(text="2", schema=schema, limit=1), 2)
        self.assertEqual(offered(prefix="1", schema=schema), ["0", "1", "2"])
        self.assertTrue(is_complete(prefix="1", schema=schema))
        for function in (has_completion, offered, forced_text, count, shortest):
            with self.assertRaises(TypeError):
                function(schema, "", 5)


class VeryManyValues(unittest.TestCase):
    def check_numbers(self, schema, prefix, limit, numbers):
        for number in numbers:
            document = completion(schema, prefix, number, limit=limit)
            if prefix == "":
                self.assertEqual(rank(schema, document, limit=limit), number)
            self.assertTrue(document.startswith(prefix) and is_complete(schema, document))

    def test_a_list_of_eight_texts_of_twelve_letters(self):
        schema = ("list", (), WORD, 8, 8)
        many = 26 ** 96
        for limit in (None, 121, 400):
            self.assertEqual(count(schema, "", limit=limit), many)
            self.check_numbers(schema, "", limit, [0, 1, many // 3, many - 1])
            self.assertEqual(count(schema, '["abc', limit=limit), 26 ** 93)
        with self.assertRaises(NoRoom) as caught:
            count(schema, '["abc', limit=120)
        self.assertEqual(caught.exception.length, 121)
        self.assertEqual(shortest(schema, '["b'), '["b' + "a" * 11 + '"' + (',"' + "a" * 12 + '"') * 7 + "]")

    def test_a_record_of_integers_of_nine_digits(self):
        number = ("integer", 10 ** 8, 10 ** 9 - 1)
        schema = ("record", tuple((name, number, name in "bd") for name in "abcdefgh"))
        each = 9 * 10 ** 8
        self.assertEqual(count(schema, ""), each ** 2 * (each + 1) ** 6)
        # A member has 13 characters, and each one but the first a comma.
        self.assertEqual(count(schema, "", limit=2 + 2 * 13 + 1), each ** 2)
        self.assertEqual(count(schema, "", limit=2 + 3 * 13 + 2), each ** 2 * (6 * each + 1))
        many = count(schema, "", limit=60)
        self.check_numbers(schema, "", 60, [0, many // 7, many - 1])
        many = count(schema, '{"a":12', limit=400)
        self.assertEqual(many, 10 ** 7 * each ** 2 * (each + 1) ** 5)
        self.check_numbers(schema, '{"a":12', 400, [0, many // 2, many - 1])

    def test_deep_lists(self):
        schema = ("text", "", LETTERS, 0, 12)
        for _ in range(5):
            schema = ("list", (), schema, 0, 8)
        many = count(schema, "", limit=400)
        self.check_numbers(schema, "", 400, [many * 5 // 7])
        schema = schema[2][2]
        words = sum(26 ** size for size in range(13))
        rows = sum(words ** size for size in range(9))
        lists = sum(rows ** size for size in range(9))
        self.assertEqual(count(schema, ""), sum(lists ** size for size in range(9)))

    def test_many_repeats_and_sizes(self):
        members = [(name, ("integer", 0, 39), True) for name in "abcd"]
        members += [(name, ("repeat", other), True) for name, other in zip("efgh", "abcd")]
        schema = ("record", tuple(members))
        self.assertEqual(count(schema, ""), 40 ** 4)
        self.assertEqual(count(schema, "", limit=400), 40 ** 4)
        self.assertEqual(count(schema, '{"a":1,"b":2', limit=400), 11 * 40 ** 2)
        self.check_numbers(schema, "", 60, [0, 1000])
        size = ("integer", 0, 8)
        members = [("a", size, True), ("b", size, True), ("c", ("sized", WORD, "a"), True),
                   ("d", ("sized", ("flag",), "b"), False)]
        self.assertEqual(count(("record", tuple(members)), ""),
                         sum(26 ** (12 * size) for size in range(9)) * sum(2 ** size + 1 for size in range(9)))


if __name__ == "__main__":
    unittest.main()
