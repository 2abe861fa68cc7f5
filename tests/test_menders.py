"""Menders, against plain tables of all texts and their beginnings."""

import random
import unittest

import samples
from soonknown.changeerrors import NoTexts
from soonknown.errors import TooFar
from soonknown.languages import Language
from soonknown.menders import Mender
from soonknown.repairs import is_cheapest, nearest_text, repair_cost
from test_changes import PRICES, plain_distance, priced
from test_languages import objects, random_texts


class Plain:
    """What a mender should answer, by the set of the texts of its language."""

    def __init__(self, texts, prices):
        self.texts, self.prices = texts, prices
        self.beginnings = sorted({text[:cut] for text in texts for cut in range(len(text) + 1)})
        self.signs = sorted(set("".join(texts)))

    def least(self, text):
        return min(plain_distance(text, begin, self.prices) for begin in self.beginnings)

    def price(self, text):
        return min(plain_distance(text, other, self.prices) for other in self.texts)

    def welcome(self, text):
        least = self.least(text)
        return [sign for sign in self.signs + ["?"] if self.least(text + sign) == least]

    def nearest(self, text):
        price = self.price(text)
        near = [other for other in self.texts if plain_distance(text, other, self.prices) == price]
        return min(near, key=lambda other: (len(other), other))


def small_cases(source, many):
    """(texts of a language, a text to read, prices)."""
    for _ in range(many):
        signs = source.choice(["ab", "abc", "a"])
        texts = sorted(set(random_texts(source, signs, 4))) or [source.choice(["", "a", "ab"])]
        yield texts, "".join(source.choices(signs + "z", k=source.randint(0, 6))), source.choice(PRICES)
    for schema in samples.small_schemas(source, many // 5, 12):
        texts = samples.documents_of(schema)
        if max(map(len, texts)) < 14:
            text = source.choice(texts)
            at = source.randint(0, len(text))
            text = text[:at] + source.choice(["", "?", "1", "a"]) + text[at + source.randint(0, 2):]
            yield texts, text, source.choice(PRICES)


class Menders(unittest.TestCase):
    def refuse(self, call, error, stored):
        with self.assertRaises(error) as caught:
            call()
        self.assertEqual(vars(caught.exception), stored)

    def check(self, mender, plain, text, language):
        """Compare a mender with the plain tables."""
        named = priced(plain.prices)
        self.assertEqual([mender.text(), len(mender)], [text, len(text)])
        self.assertEqual([mender.least, mender.price], [plain.least(text), plain.price(text)])
        self.assertEqual(mender.welcome, plain.welcome(text))
        self.assertEqual(mender.nearest(), plain.nearest(text))
        script = mender.repair()
        self.assertEqual([script.given, script.made, script.cost(**named)],
                         [text, plain.nearest(text), plain.price(text)])
        self.assertTrue(is_cheapest(language, text, script, **named))
        new = Mender(language, **named)
        new.feed(text)
        self.assertTrue(mender == new and new == mender)
        self.assertFalse(mender != new)

    def test_behind_every_character(self):
        for texts, text, prices in small_cases(random.Random(171), 80):
            language, plain = Language.listed(texts), Plain(texts, prices)
            mender = Mender(language, **priced(prices))
            self.check(mender, plain, "", language)
            costs = []
            for at, sign in enumerate(text):
                told = mender.feed(sign)
                self.assertEqual(told, [plain.least(text[:at + 1])])
                costs += told
                self.check(mender, plain, text[:at + 1], language)
            whole, parts = Mender(language, **priced(prices)), Mender(language, **priced(prices))
            cut = len(text) // 2
            self.assertEqual(whole.feed(text), costs)
            self.assertEqual(parts.feed(text[:cut]) + parts.feed("") + parts.feed(text[cut:]), costs)
            self.assertTrue(whole == parts == mender)
            for one, other in zip([0] + costs, costs):
                self.assertTrue(one <= other <= one + prices[1])

    def test_the_same_object(self):
        mender = Mender(Language.listed(["ab"]))
        same = mender
        mender += "ax"
        self.assertIs(mender, same)
        self.assertEqual([same.text(), same.least], ["ax", 1])
        holder = {"mender": mender}
        holder["mender"] += "b"
        self.assertIs(holder["mender"], same)
        self.assertEqual(same.text(), "axb")

    def test_back(self):
        for texts, text, prices in small_cases(random.Random(172), 40):
            language, plain = Language.listed(texts), Plain(texts, prices)
            mender = Mender(language, **priced(prices))
            mender.feed(text)
            for number in range(len(text) + 1):
                self.assertIsNone(mender.back(number))
                self.check(mender, plain, text[:len(text) - number], language)
                for wrong in (len(mender) + 1, 10 ** 30):
                    self.refuse(lambda: mender.back(wrong), TooFar, {"number": wrong})
                mender.feed(text[len(text) - number:])
            self.check(mender, plain, text, language)

    def test_histories(self):
        source = random.Random(173)
        for texts, _, prices in small_cases(source, 40):
            language, plain = Language.listed(texts), Plain(texts, prices)
            pairs = [(Mender(language, **priced(prices)), "")]
            for _ in range(20):
                at = source.randrange(len(pairs))
                mender, text = pairs[at]
                kind = source.choice(["feed", "add", "back", "fork", "wrong"])
                if kind == "feed" and len(text) < 9:
                    more = "".join(source.choices(plain.signs + ["?"], k=source.randint(0, 3)))
                    self.assertEqual(mender.feed(more),
                                     [plain.least(text + more[:size + 1]) for size in range(len(more))])
                    text += more
                elif kind == "add" and len(text) < 9:
                    more = source.choice(texts)[:2]
                    mender += more
                    text += more
                elif kind == "back":
                    number = source.randint(0, len(text))
                    mender.back(number)
                    text = text[:len(text) - number]
                elif kind == "wrong":
                    self.refuse(lambda: mender.back(len(text) + 1), TooFar, {"number": len(text) + 1})
                elif kind == "fork" and len(pairs) < 4:
                    pairs.append((mender.fork(), text))
                pairs[at] = (mender, text)
            for mender, text in pairs:
                self.check(mender, plain, text, language)

    def test_no_texts(self):
        self.refuse(lambda: Mender(Language.listed([])), NoTexts, {"wrong": ""})
        self.refuse(lambda: Mender(Language.listed([]), put=5), NoTexts, {"wrong": ""})
        self.assertEqual(Mender(Language.listed([""])).price, 0)

    def test_equality(self):
        language = Language.listed(["0", "1"])
        one = Mender(language, put=2)
        self.assertTrue(one == Mender(Language.of(("integer", 0, 1)), put=2))
        self.assertTrue(one == one.fork())
        read = Mender(language, put=2)
        read.feed("0")
        for other in objects() + [read, Mender(language), Mender(language, put=2, drop=2),
                                  Mender(language, put=2, swap=2),
                                  Mender(Language.listed(["0"]), put=2), language, "", 0]:
            self.assertIs(one == other, False)
            self.assertIs(one != other, True)
        read.back(1)
        self.assertTrue(one == read)

    def test_what_is_returned_can_be_changed(self):
        mender = Mender(language=Language.listed(["ab", "cb"]), put=1, drop=1, swap=1)
        for found in (mender.feed(text="a"), mender.welcome):
            found.clear()
        self.assertEqual([mender.welcome, mender.feed("b"), mender.welcome], [["b"], [0], []])
        mender.back(number=2)
        self.assertEqual(mender.welcome, ["a", "c"])
        with self.assertRaises(TypeError):
            Mender(Language.listed(["a"]), 1)
        with self.assertRaises(AttributeError):
            mender.least = 5

    def test_texts_of_400_characters(self):
        source = random.Random(174)
        word = ("text", "", "abcdefghijklmnopqrstuvwxyz", 0, 12)
        language = Language.of(("list", (("list", (), word, 0, 8),), word, 1, 8))
        mender = Mender(language, put=3, drop=2, swap=4)
        text = "".join(source.choices("[]abc,\"", k=400))
        costs = mender.feed(text)
        self.assertEqual(len(costs), 400)
        self.assertEqual(costs, sorted(costs))
        self.assertEqual(mender.price, repair_cost(language, text, put=3, drop=2, swap=4))
        self.assertEqual(mender.nearest(), nearest_text(language, text, put=3, drop=2, swap=4))
        for sign in mender.welcome:
            self.assertEqual(mender.fork().feed(sign), costs[-1:])


if __name__ == "__main__":
    unittest.main()
