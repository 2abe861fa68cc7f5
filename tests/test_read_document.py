"""read_document: documents, beginnings of documents, and documents with a fault."""

import random
import unittest

from samples import is_document, plain_document, random_value, refused_at
from soonknown.errors import BadDocument
from soonknown.values import document, read_document, same

SIGNS = '0123456789-"[]{},:abyztruefals AZ\n.+\u00e9'

# Texts and the positions at which they are refused.
REFUSED = [
    ("", 0), (" ", 0), (" 1", 0), ("x", 0), ("None", 0), ("null", 0), ("T", 0), ("+1", 0), (".", 0), ("]", 0), (",", 0),
    ("-", 1), ("--1", 1), ("-0", 1), ("-a", 1), ("00", 1), ("01", 1), ("0.", 1), ("1 ", 1), ("1.", 1), ("1e", 1),
    ("-01", 1), ("12a", 2), ("1-", 1), ("1000000001", 9), ("1000000000 ", 10), ("1000000002", 9), ("1000000010", 9),
    ("1100000000", 9), ("2000000000", 9), ("9999999999", 9), ("10000000000", 10), ("-1000000001", 10),
    ("-2000000000", 10), ("-10000000000", 11), ("999999999a", 9), ("\u0661", 0), ("1\u0661", 1), ("\u00b2", 0),
    ("t", 1), ("tr", 2), ("tru", 3), ("trUe", 2), ("truee", 4), ("true ", 4), ("tralse", 2), ("fal", 3), ("falsy", 4),
    ("falsefalse", 5), ("f ", 1), ("1true", 1), ('"', 1), ('"ab', 3), ('"aB"', 2), ('"a b"', 2), ('"a1"', 2),
    ('""a', 2), ('"a""', 3), ('"\n"', 1), ('"\\"', 1), ('"' + "a" * 12, 13), ('"' + "a" * 13, 13),
    ('"' + "a" * 13 + '"', 13), ("'a'", 0), ("[", 1), ("[,", 1), ("[1", 2), ("[1,", 3), ("[1,]", 3), ("[1,,1]", 3),
    ("[1 ,1]", 2), ("[1, 1]", 3), ("[1}", 2), ("[1]]", 3), ("[1],", 3), ("[01]", 2), ("[-]", 2), ("[-0]", 2),
    ("[1:2]", 2), ("[)", 1), ("[]1", 2), ("[1,1,1,1,1,1,1,1,", 16), ("[1,1,1,1,1,1,1,1,1]", 16),
    ("[[],[],[],[],[],[],[],[],", 24), ("[[1,1,1,1,1,1,1,1,1]]", 17), ("[1000000001]", 10), ("{", 1), ("{}}", 2),
    ("{ }", 1), ("{a:1}", 1), ("{,", 1), ('{"', 2), ('{""', 2), ('{"":1}', 2), ('{"a', 3), ('{"a"', 4), ('{"a":', 5),
    ('{"a":1', 6), ('{"a":}', 5), ('{"a"}', 4), ('{"a",', 4), ('{"a":1,', 7), ('{"a":1,}', 7), ('{"a":1 }', 6),
    ('{"a":1;"b":2}', 6), ('{"a" :1}', 4), ('{"a": 1}', 5), ('{"A":1}', 2), ('{"a1":1}', 3), ('{"a":1]', 6),
    ('{"' + "a" * 8, 10), ('{"' + "a" * 9, 10), ('{"' + "a" * 9 + '":1}', 10), ('{"b":1,"a":2}', 8),
    ('{"a":1,"a":2}', 9), ('{"a":1,"a"', 9), ('{"a":1,"', 8), ('{"a":1,""', 8), ('{"ab":1,"a":2}', 10),
    ('{"ab":1,"aa":2}', 10), ('{"ab":1,"aaz":2}', 10), ('{"ab":1,"ab', 11), ('{"ab":1,"ab":2}', 11),
    ('{"ba":1,"az":2}', 9),
    ('{"azzzzzzz":1,"a', 15), ('{"azzzzzzz":1,"b', 16), ('{"azzzzzzy":1,"azzzzzz":2}', 22),
    ('{"azzzzzzy":1,"azzzzzzy"', 22), ('{"zzzzzzzy":1,', 14), ('{"zzzzzzzz":1,', 13), ('{"zzzzzzzz":[],"a":1}', 14),
    ('{"zzzzzzz":1,"z', 15), ('{"zzzzzzz":1,"zzzzzzz"', 21), ('{"zzzzzzz":1,"zzzzzzzz":1,', 25),
    ('{"a":1,"b":1,"c":1,"d":1,"e":1,"f":1,"g":1,"h":1,', 48),
    ('{"a":1,"b":1,"c":1,"d":1,"e":1,"f":1,"g":1,"h":1,"i":1}', 48),
    ('{"a":{"b":1,"a":1}}', 13), ('[{"b":1},{"a":1,"a":1}]', 18), ("[[[[[[1", 6), ("[[[[[[[", 6), ("[[[[[[{", 6),
    ('[[[[[["', 6), ("[[[[[[", 6), ("[[[[[1", 6), ("[[[[[{1", 6), ('[[[[[{"', 6), ("[[[[[{", 6), ("[[[[[1,[", 8),
    ("[[[[[1,[1", 8), ('{"a":{"a":{"a":{"a":{"a":{"', 26), ('{"a":{"a":{"a":{"a":{"a":[1', 26),
    ('{"a":{"a":{"a":{"a":{"a":1,"b":[[', 32), ("[[[[[[]]]]]]]", 12), ("[1]x", 3), ("1\n", 1), ("\ud800", 0),
    ("[1\x00", 2),
]


class ReadDocument(unittest.TestCase):
    def refused(self, thing):
        with self.assertRaises(BadDocument) as caught:
            read_document(thing)
        return caught.exception.position

    def test_refused_texts(self):
        for text, position in REFUSED:
            with self.subTest(text=text):
                self.assertEqual(self.refused(text), position)
                self.assertEqual(refused_at(text), position)

    def test_other_things(self):
        for thing in (None, 0, 5, True, [], ["1"], ("1",), {}, {"a": 1}, ()):
            with self.subTest(thing=thing):
                self.assertEqual(self.refused(thing), 0)

    def test_values_at_the_bounds(self):
        wide = {name: at for at, name in enumerate("abcdefgh")}
        for value in (0, 10 ** 9, -10 ** 9, 999999999, -1, True, False, "", "z" * 12, [], {}, [0] * 8, wide,
                      {"z" * 8: 1}, {"z" * 7: 1, "z" * 8: 1}, {"a": 1, "aa": 2, "b": 3}, [[[[[[]]]]]], [[[[[{}]]]]],
                      [[[[[1]]]]], {"a": {"a": {"a": {"a": {"a": "x"}}}}}):
            with self.subTest(value=value):
                self.assertTrue(same(read_document(plain_document(value)), value))

    def test_kinds_of_what_is_read(self):
        read = read_document(text='[1,0,true,false,"true","",[],{}]')
        self.assertEqual([str(part) + str(type(part)) for part in read],
                         [str(part) + str(type(part)) for part in [1, 0, True, False, "true", "", [], {}]])

    def test_whatever_is_read_is_new(self):
        text = '[[],[],{},{},[[],{"a":[],"b":[]}]]'
        found = []

        def collect(value):
            if isinstance(value, (list, dict)):
                found.append(value)
                for part in value.values() if isinstance(value, dict) else value:
                    collect(part)

        first, second = read_document(text), read_document(text)
        collect(first)
        collect(second)
        self.assertEqual(len({id(part) for part in found}), 20)
        first[0].append(1)
        self.assertEqual(read_document(text), second)

    def test_every_beginning(self):
        chance = random.Random(3)
        for _ in range(60):
            text = plain_document(random_value(chance, 3))
            for end in range(min(len(text), 80)):
                beginning = text[:end]
                if not is_document(beginning):
                    self.assertEqual(self.refused(beginning), end, beginning)

    def changed(self, chance, text):
        """A text with a character put in, changed or left out."""
        at = chance.randrange(len(text))
        sign = chance.choice(SIGNS)
        return chance.choice([text[:at] + sign + text[at:], text[:at] + sign + text[at + 1:], text[:at] + text[at + 1:],
                              text + sign])

    def test_changed_documents(self):
        chance = random.Random(4)
        for _ in range(2500):
            text = plain_document(random_value(chance, 3))
            if len(text) > 60:
                continue
            for _ in range(chance.randint(1, 2)):
                text = self.changed(chance, text) if text else "x"
            if is_document(text):
                self.assertEqual(document(read_document(text)), text)
            else:
                self.assertEqual(self.refused(text), refused_at(text), text)

    def test_random_texts_of_brackets(self):
        chance = random.Random(5)
        pieces = ["[", "]", "{", "}", ",", '"a":', '"b":', '"aa":', "1", '"', "a", "true", "[[", "[["]
        for _ in range(2500):
            text = "".join(chance.choices(pieces, k=chance.randint(1, 9)))
            if is_document(text):
                self.assertEqual(document(read_document(text)), text)
            else:
                self.assertEqual(self.refused(text), refused_at(text), text)

    def test_long_texts_do_not_take_long(self):
        self.assertEqual(self.refused("[" * 200000), 6)
        self.assertEqual(self.refused("1" * 200000), 9)
        self.assertEqual(self.refused('"' + "a" * 200000), 13)
        value = True
        for _ in range(5):
            value = [value] * 8
        text = plain_document(value)
        self.assertEqual(document(read_document(text)), text)
        self.assertEqual(self.refused(text + "x"), len(text))


if __name__ == "__main__":
    unittest.main()
