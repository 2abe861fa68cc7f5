"""Languages, against plain sets of texts."""

import itertools
import random
import unittest

import samples
from soonknown.automata import automaton
from soonknown.changeerrors import NoSuchText, NotInside
from soonknown.changes import Script
from soonknown.console import Console
from soonknown.errors import TooManyStates
from soonknown.languages import Language
from soonknown.reader import Reader
from test_automata import least_automaton

STRANGE = ["\u00e9", "\u20ac", "\0", "\n", " ", "\U0001f600", "\ud800"]
THINGS = [None, True, False, 0.5, 1.0, b"a", (), ("a",), ["a"], {}, {"a": 1}, [[]], (0,)]


def objects():
    """Values of any kind, objects of the package among them."""
    return THINGS + [Script([]), Console(), Reader(("flag",)), Language.listed([]), Language.listed(["a"])]


def plain_states(texts):
    """The least automaton of some texts, numbered as [21] says."""
    return least_automaton(texts) if texts else [(False, ())]


def random_texts(source, signs="ab", longest=4):
    """A list of random texts, perhaps none, perhaps some twice."""
    many = source.choice([0, 1, 1, 2, 3, 5, 8, 12])
    return ["".join(source.choices(signs, k=source.randint(0, longest))) for _ in range(many)]


def some_lists(source, many):
    """Lists of texts: drawn ones, all short ones, and the documents of small schemas."""
    found = [[], [""], ["", ""], ["a"], ["a", "a"], STRANGE, STRANGE + [""], ["a" * 400], ["a" * 400, "a" * 399 + "b"]]
    found.append(["".join(word) for size in range(5) for word in itertools.product("ab", repeat=size)])
    while len(found) < many:
        found.append(random_texts(source, source.choice(["ab", "abc", "a", "ab\u00e9"]), source.choice([2, 4, 7])))
    return found + [samples.documents_of(schema) for schema in samples.small_schemas(source, many // 4, 60)]


class Languages(unittest.TestCase):
    def check(self, language, texts):
        """Compare a language with the set of its texts."""
        wanted = sorted(set(texts))
        self.assertEqual(language.states(), plain_states(wanted))
        self.assertIs(type(language.states()), list)
        self.assertEqual(language.count, len(wanted))
        self.assertIs(bool(language), wanted != [])
        longest = max(map(len, wanted), default=-1)
        self.assertEqual(language.lengths(), [sum(len(text) == size for text in wanted) for size in range(longest + 1)])
        for number, text in enumerate(wanted):
            self.assertEqual(language[number], text)
            self.assertEqual(language.rank_of(text), number)
            self.assertIs(text in language, True)
        for number in (-1, -len(wanted), len(wanted), len(wanted) + 1, 10 ** 30, -10 ** 30):
            if not 0 <= number < len(wanted):
                self.refuse(lambda: language[number], NoSuchText, {"count": len(wanted)})

    def refuse(self, call, error, stored):
        with self.assertRaises(error) as caught:
            call()
        self.assertEqual(vars(caught.exception), stored)

    def test_lists_of_texts(self):
        source = random.Random(141)
        for texts in some_lists(source, 150):
            language = Language.listed(texts)
            self.check(language, texts)
            near = [text + "a" for text in texts[:5]] + [text[:-1] for text in texts[:5]]
            for text in ["", "a", "b", "ab", "aba", "z", "A"] + near:
                self.assertIs(text in language, text in texts)
                if text not in texts:
                    self.refuse(lambda: language.rank_of(text), NotInside, {"wrong": text})
            other = list(texts)
            source.shuffle(other)
            self.assertEqual(Language.listed(other + other[:3]), language)

    def test_other_values(self):
        for language in (Language.listed(["", "a", "b"]), Language.listed([]), Language.of(("integer", 0, 1))):
            for thing in objects():
                self.assertIs(thing in language, False)
                with self.assertRaises(NotInside) as caught:
                    language.rank_of(thing)
                self.assertIs(caught.exception.wrong, thing)
                self.refuse(lambda: language[thing], NoSuchText, {"count": language.count})
            for thing in ("0", "", "a"):
                self.refuse(lambda: language[thing], NoSuchText, {"count": language.count})
            for thing in (0, 1):
                self.assertIs(thing in language, False)
                self.refuse(lambda: language.rank_of(thing), NotInside, {"wrong": thing})

    def test_equality(self):
        one = Language.listed(["1", "0"])
        for same in (Language.of(("integer", 0, 1)), Language.listed(["0", "1", "0"]),
                     Language.listed(["0"]) | Language.listed(["1"]),
                     Language.of(("either", (("just", 0), ("just", 1)))),
                     Language.of(("integer", 0, 99)).upto(1) & Language.listed(["0", "1"])):
            self.assertTrue(one == same and same == one)
            self.assertFalse(one != same)
        for other in objects() + [Language.listed(["0"]), Language.of(("integer", 0, 2)), one.states(), "0", 2]:
            self.assertIs(one == other, False)
            self.assertIs(one != other, True)

    def test_operators(self):
        source = random.Random(142)
        for _ in range(250):
            first, second = random_texts(source, "abc", 3), random_texts(source, "abc", 3)
            ours, others = set(first), set(second)
            one, other = Language.listed(first), Language.listed(second)
            self.check(one & other, ours & others)
            self.check(one | other, ours | others)
            self.check(one - other, ours - others)
            self.check(one ^ other, ours ^ others)
            self.assertIs(one.within(other), ours <= others)
            self.assertIs(other.within(one), others <= ours)
            self.assertIs(one.within(one | other), True)
            self.check(one, first)
        for schema in samples.small_schemas(source, 60, 60):
            other = source.choice(samples.small_schemas(source, 1, 60))
            ours, others = set(samples.documents_of(schema)), set(samples.documents_of(other))
            others |= set(source.sample(sorted(ours), len(ours) // 2))
            one, other = Language.of(schema), Language.listed(list(others))
            self.check(one & other, ours & others)
            self.check(one | other, ours | others)
            self.check(one - other, ours - others)
            self.check(one ^ other, ours ^ others)
            self.check(one - one, [])
            self.check(one ^ one, [])
            self.assertIs(one.within(other), ours <= others)

    def test_laws_of_great_languages(self):
        word = ("text", "", "abcdefghijklmnopqrstuvwxyz", 0, 12)
        one = Language.of(("list", (), word, 0, 2))
        other = Language.of(("list", (), ("text", "", "abc", 0, 12), 1, 3))
        both = one & other
        self.assertEqual((one | other).count, one.count + other.count - both.count)
        self.assertEqual((one - other).count, one.count - both.count)
        self.assertEqual((one ^ other).count, one.count + other.count - 2 * both.count)
        self.assertEqual(both, one - (one - other))
        self.assertEqual(one ^ other, (one | other) - both)
        self.assertTrue(both.within(one) and both.within(other) and not one.within(other))

    def test_upto(self):
        source = random.Random(143)
        for texts in some_lists(source, 100):
            language = Language.listed(texts)
            for limit in [0, 1, 2, 3, 4, 5, 9, 399, 400, 401, 10 ** 30]:
                self.check(language.upto(limit), [text for text in texts if len(text) <= limit])
            self.check(language, texts)

    def test_documents(self):
        source = random.Random(144)
        for schema in samples.small_schemas(source, 120, 150):
            language = Language.of(schema)
            self.check(language, samples.documents_of(schema))
            self.assertEqual(language.states(), automaton(schema))
            self.assertEqual(language, Language.listed(samples.documents_of(schema)))

    def test_the_bound(self):
        for schema in (("flag",), ("integer", 0, 99), ("list", (), ("flag",), 0, 2)):
            many = len(automaton(schema))
            for bound in (0, 1, many - 1):
                self.refuse(lambda: Language.of(schema, bound=bound), TooManyStates, {"bound": bound})
            for bound in (many, many + 1, 2000):
                self.assertEqual(len(Language.of(schema=schema, bound=bound).states()), many)
        row = ["a" * 12] * 8
        value = [[row] * 8, [row] * 7, [row], "a" * 12, "a" * 12, "a" * 7]
        self.assertEqual(len(Language.of(("just", value)).states()), 2000)
        self.refuse(lambda: Language.of(("just", value[:-1] + ["a" * 8])), TooManyStates, {"bound": 2000})
        with self.assertRaises(TypeError):
            Language.of(("flag",), 2000)

    def test_very_many_documents(self):
        source = random.Random(145)
        word = ("text", "", "abcdefghij", 1, 7)
        schema = ("list", (), word, 0, 3)
        language = Language.of(schema)
        self.assertEqual(language.count, sum((sum(10 ** size for size in range(1, 8))) ** many for many in range(4)))
        self.assertGreater(language.count, 10 ** 21)
        for number in [0, 1, language.count - 1, *[source.randrange(language.count) for _ in range(200)]]:
            text = language[number]
            self.assertEqual(language.rank_of(text), number)
        self.assertEqual(sum(language.lengths()), language.count)
        self.assertEqual(sum(language.upto(20).lengths()), sum(language.lengths()[:21]))
        self.refuse(lambda: language[language.count], NoSuchText, {"count": language.count})

    def test_texts_of_many_characters(self):
        source = random.Random(146)
        texts = ["".join(source.choices("ab", k=400)) for _ in range(4)] + [chr(33 + at) for at in range(900)]
        self.check(Language.listed(texts), texts)

    def test_what_is_returned_can_be_changed(self):
        texts = ["a", "b", "ab"]
        language = Language.listed(texts)
        texts.clear()
        language.states().clear()
        language.lengths().clear()
        self.check(language, ["a", "b", "ab"])
        self.assertEqual(Language.listed(texts=["a"]).upto(limit=0).within(other=language), True)
        self.assertEqual(language.rank_of(text="b"), 2)
        with self.assertRaises(TypeError):
            list(language)


if __name__ == "__main__":
    unittest.main()
