"""Gaps, against all texts of the language that fit."""

import os.path
import random
import time
import unittest

import samples
from soonknown.changeerrors import NothingBetween
from soonknown.errors import NotOffered, TooFar
from soonknown.gaps import Gap
from soonknown.languages import Language
from test_languages import objects, random_texts


def middles_of(texts, before, after):
    """All middles between two texts."""
    return sorted({text[len(before):len(text) - len(after)] for text in texts
                   if text.startswith(before) and text.endswith(after) and len(text) >= len(before) + len(after)})


class Model:
    """A gap by the set of the texts of its language."""

    def __init__(self, texts, before, after):
        self.texts, self.before, self.after, self.calls = texts, before, after, []

    def middles(self):
        return middles_of(self.texts, self.before, self.after)

    def refused_at(self, text, last):
        """The position at which put or put_last refuses a text, or None."""
        before, after = self.before, self.after
        for sign in reversed(text) if last else text:
            if last:
                if not middles_of(self.texts, before, sign + after):
                    return len(after)
                after = sign + after
            else:
                if not middles_of(self.texts, before + sign, after):
                    return len(before)
                before += sign
        return None

    def change(self, before, after):
        self.calls.append((self.before, self.after))
        self.before, self.after = before, after

    def undo(self, number):
        if number:
            self.before, self.after = self.calls[-number]
            del self.calls[-number:]


class Gaps(unittest.TestCase):
    def check(self, gap, model, language):
        """Compare a gap with all that fits."""
        middles = model.middles()
        self.assertEqual([gap.before, gap.after], [model.before, model.after])
        self.assertEqual(gap.first, sorted({middle[0] for middle in middles if middle}))
        self.assertEqual(gap.last, sorted({middle[-1] for middle in middles if middle}))
        self.assertEqual(gap.forced, os.path.commonprefix(middles))
        self.assertEqual(gap.forced_last, os.path.commonprefix([middle[::-1] for middle in middles])[::-1])
        self.assertIs(gap.closed, "" in middles)
        self.assertEqual(gap.middles(), Language.listed(middles))
        fitting = [model.before + middle + model.after for middle in middles]
        self.assertEqual(gap.fitting(), Language.listed(fitting))
        self.assertTrue(gap.fitting().within(language))
        new = Gap(language, model.before, model.after)
        self.assertTrue(gap == new and new == gap)
        self.assertFalse(gap != new)

    def refuse(self, call, error, stored):
        with self.assertRaises(error) as caught:
            call()
        self.assertEqual(vars(caught.exception), stored)

    def test_all_ends(self):
        source = random.Random(151)
        for _ in range(150):
            texts = sorted(set(random_texts(source, source.choice(["ab", "a", "abc"]), source.choice([3, 5]))))
            language = Language.listed(texts)
            ends = {"", "a", "b", "ab", "ba", "aa", "aba", "z"}
            for text in texts[:4]:
                cut, other = source.randint(0, len(text)), source.randint(0, len(text))
                ends |= {text, text[:cut], text[cut:], text[min(cut, other):max(cut, other)]}
            for before in sorted(ends):
                for after in source.sample(sorted(ends), min(5, len(ends))):
                    if middles_of(texts, before, after):
                        self.check(Gap(language, before, after), Model(texts, before, after), language)
                    else:
                        self.refuse(lambda: Gap(language, before, after), NothingBetween, {"pair": (before, after)})

    def test_documents(self):
        source = random.Random(152)
        for schema in samples.small_schemas(source, 60, 60):
            texts = samples.documents_of(schema)
            language = Language.of(schema)
            for text in source.sample(texts, min(3, len(texts))):
                cuts = sorted([source.randint(0, len(text)), source.randint(0, len(text))])
                before, after = text[:cuts[0]], text[cuts[1]:]
                gap, model = Gap(language, before, after), Model(texts, before, after)
                self.check(gap, model, language)
                for at in range(cuts[0], cuts[1]):
                    gap.put(text[at])
                    model.change(model.before + text[at], model.after)
                self.check(gap, model, language)

    def test_ends_that_overlap(self):
        language = Language.listed(["aba", "ababa", "aa"])
        self.assertEqual(Gap(language, "aba", "a").middles()[0], "b")
        self.refuse(lambda: Gap(Language.listed(["aba"]), "ab", "ba"), NothingBetween, {"pair": ("ab", "ba")})
        gap = Gap(language, "ab", "ba")
        self.assertEqual([gap.fitting().count, gap.middles()[0], gap.closed], [1, "a", False])
        gap = Gap(language, "aba", "")
        self.assertEqual([gap.closed, gap.forced, gap.first, gap.last], [True, "", ["b"], ["a"]])
        gap = Gap(language, "aa")
        self.assertEqual([gap.closed, gap.forced, gap.forced_last, gap.first, gap.last], [True, "", "", [], []])
        gap = Gap(Language.listed(["abab"]), "a", "b")
        self.assertEqual([gap.forced, gap.forced_last], ["ba", "ba"])
        self.refuse(lambda: Gap(Language.listed([])), NothingBetween, {"pair": ("", "")})
        self.refuse(lambda: Gap(Language.listed(["a"]), "a", "a"), NothingBetween, {"pair": ("a", "a")})

    def test_histories(self):
        source = random.Random(153)
        for _ in range(120):
            texts = sorted(set(random_texts(source, "ab", 6) + ["abba", "ab"]))
            language = Language.listed(texts)
            start = source.choice(texts)
            cut = source.randint(0, len(start))
            before, after = source.choice([("", ""), (start[:cut], start[cut:]), (start[:cut], "")])
            pairs = [(Gap(language, before, after), Model(texts, before, after))]
            for _ in range(30):
                gap, model = source.choice(pairs)
                self.step(source, gap, model, pairs)
                self.check(gap, model, language)
            for gap, model in pairs:
                self.check(gap, model, language)
                self.refuse(lambda: gap.undo(len(model.calls) + 1), TooFar, {"number": len(model.calls) + 1})
                self.assertIsNone(gap.undo(len(model.calls)))
                model.undo(len(model.calls))
                self.check(gap, model, language)

    def step(self, source, gap, model, pairs):
        """One drawn call on a gap and its model."""
        kind = source.choice(["put", "put", "put_last", "put_last", "drop", "drop_last", "undo", "fork"])
        number = source.choice([0, 1, 1, 2, 3, 9])
        if kind in ("put", "put_last"):
            last = kind == "put_last"
            middle = source.choice(model.middles())
            text = middle[len(middle) - number:] if last else middle[:number]
            text = source.choice([text, text, text + source.choice("abz"), source.choice("abz") + text, ""])
            refused = model.refused_at(text, last)
            if refused is not None:
                self.refuse(lambda: getattr(gap, kind)(text), NotOffered, {"position": refused})
            else:
                self.assertIsNone(getattr(gap, kind)(text))
                model.change(*((model.before, text + model.after) if last else (model.before + text, model.after)))
        elif kind == "fork":
            if len(pairs) < 5:
                other = Model(model.texts, model.before, model.after)
                other.calls = list(model.calls)
                pairs.append((gap.fork(), other))
        else:
            size = {"drop": len(model.before), "drop_last": len(model.after), "undo": len(model.calls)}[kind]
            if number > size:
                self.refuse(lambda: getattr(gap, kind)(number), TooFar, {"number": number})
                return
            self.assertIsNone(getattr(gap, kind)(number))
            if kind == "undo":
                model.undo(number)
            elif kind == "drop":
                model.change(model.before[:size - number], model.after)
            else:
                model.change(model.before, model.after[number:])

    def test_a_later_character_that_is_refused(self):
        gap = Gap(Language.listed(["abcd", "abxd"]), "a", "d")
        for text, position in (("bz", 2), ("z", 1), ("bcd", 3), ("bx\u00e9", 3)):
            self.refuse(lambda: gap.put(text), NotOffered, {"position": position})
        for text, position in (("zc", 2), ("z", 1), ("abc", 3), ("bxd", 1)):
            self.refuse(lambda: gap.put_last(text), NotOffered, {"position": position})
        self.assertEqual([gap.before, gap.after, gap.middles().count], ["a", "d", 2])
        self.refuse(lambda: gap.undo(1), TooFar, {"number": 1})

    def test_calls_are_recorded_whatever_they_change(self):
        gap = Gap(Language.listed(["ab", "b"]), "a")
        for call in (lambda: gap.put(""), lambda: gap.put_last(""), lambda: gap.drop(0), lambda: gap.drop_last(0)):
            self.assertIsNone(call())
        gap.drop(1)
        self.assertEqual([gap.before, gap.first], ["", ["a", "b"]])
        self.refuse(lambda: gap.undo(6), TooFar, {"number": 6})
        self.assertIsNone(gap.undo(0))
        self.refuse(lambda: gap.put("az"), NotOffered, {"position": 1})
        gap.undo(1)
        self.assertEqual(gap.before, "a")
        gap.undo(4)
        self.refuse(lambda: gap.undo(1), TooFar, {"number": 1})
        self.refuse(lambda: gap.drop(10 ** 30), TooFar, {"number": 10 ** 30})

    def test_equality(self):
        language = Language.listed(["0", "1"])
        one = Gap(language, "", "")
        self.assertTrue(one == Gap(Language.of(("integer", 0, 1))))
        moved = Gap(language, "1")
        moved.drop(1)
        self.assertTrue(one == moved)
        for other in objects() + [language, Gap(language, "0"), Gap(language, "", "0"), Gap(Language.listed(["0"])),
                                  ("", "")]:
            self.assertIs(one == other, False)
            self.assertIs(one != other, True)

    def test_what_is_returned_can_be_changed(self):
        gap = Gap(language=Language.listed(["ab", "cb"]), before="", after="b")
        for found in (gap.first, gap.last):
            found.clear()
        self.assertEqual([gap.first, gap.last], [["a", "c"], ["a", "c"]])
        gap.put(text="a")
        gap.drop(number=1)
        gap.put_last(text="a")
        gap.drop_last(number=1)
        gap.undo(number=4)
        self.assertEqual([gap.before, gap.after], ["", "b"])
        with self.assertRaises(AttributeError):
            gap.before = "a"

    def test_great_languages(self):
        begin = time.perf_counter()
        word = ("text", "", "abcdefghijklmnopqrstuvwxyz", 0, 12)
        language = Language.of(("list", (), word, 0, 8))
        gap = Gap(language, "[", ']')
        while not gap.closed or len(gap.before) < 60:
            gap.put(gap.first[len(gap.before) % len(gap.first)])
            if gap.last and len(gap.after) < 40:
                gap.put_last(gap.last[len(gap.after) % len(gap.last)])
            self.assertIn(gap.forced_last[-1:], ["", *gap.last])
        self.assertGreater(gap.fitting().count, 0)
        self.assertTrue(gap.fitting().within(language))
        chain = Language.listed(["a" * size + "b" * (400 - size) for size in range(0, 400, 7)] + ["a" * 399])
        gap = Gap(chain, "a" * 30, "")
        gap.put_last("b" * 100)
        self.assertEqual(gap.fitting(), chain & Language.listed([chain[at] for at in range(chain.count)
                                                                 if chain[at].startswith("a" * 30) and
                                                                 chain[at].endswith("b" * 100)]))
        self.assertLess(time.perf_counter() - begin, 20)


if __name__ == "__main__":
    unittest.main()
