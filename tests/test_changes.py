"""Scripts of changes, against a second walk through their steps and a plain table of least costs."""

import itertools
import random
import unittest

from soonknown.changeerrors import BadScript, WrongText
from soonknown.changes import Script, least_script
from soonknown.console import Console
from soonknown.reader import Reader

PRICES = [(1, 1, 1), (1, 1, 2), (1, 1, 3), (2, 1, 1), (1, 2, 5), (3, 2, 4), (1, 1000, 1), (1000, 1, 7), (5, 5, 10),
          (1, 1, 1000)]


def priced(prices):
    return dict(zip(("put", "drop", "swap"), prices))


def random_script(source, given, signs="abc"):
    """A random script for a text."""
    steps = []
    for sign in given + "\0":
        while source.random() < 0.3:
            steps.append(("put", source.choice(signs)))
        if sign != "\0":
            kind = source.choice(["keep", "keep", "drop", "swap"])
            other = source.choice([letter for letter in signs + "z" if letter != sign])
            steps.append(("swap", sign, other) if kind == "swap" else (kind, sign))
    return Script(steps)


def second_sum(first, second):
    """The walk of [28], from the back of two lists that are turned around."""
    ours, others, found = list(first)[::-1], list(second)[::-1], []
    while ours or others:
        if ours and ours[-1][0] == "drop":
            found.append(ours.pop())
        elif others and others[-1][0] == "put":
            found.append(others.pop())
        else:
            one, other = ours.pop(), others.pop()
            # What a character was before both (None: nothing), and what it is behind them.
            before = None if one[0] == "put" else one[1]
            behind = None if other[0] == "drop" else other[-1]
            if before is None and behind is not None:
                found.append(("put", behind))
            elif before is not None and behind is None:
                found.append(("drop", before))
            elif before is not None:
                found.append(("keep", before) if before == behind else ("swap", before, behind))
    return tuple(found)


def plain_distance(given, made, prices):
    """The least cost of a script, by the table of all beginnings."""
    put, drop, swap = prices
    table = {}
    for at, place in itertools.product(range(len(given) + 1), range(len(made) + 1)):
        ways = [0] if at == place == 0 else []
        if at:
            ways.append(table[at - 1, place] + drop)
        if place:
            ways.append(table[at, place - 1] + put)
        if at and place:
            ways.append(table[at - 1, place - 1] + (0 if given[at - 1] == made[place - 1] else swap))
        table[at, place] = min(ways)
    return table[len(given), len(made)]


STRANGE = ["\u00e9", "\u20ac", "\0", "\n", " ", "\U0001f600", "\ud800"]


class Scripts(unittest.TestCase):
    def test_steps_as_list_and_as_tuple(self):
        steps = [("keep", "a"), ("drop", "b"), ("swap", "c", "d"), ("put", "e"), ("put", " ")]
        for given in (steps, tuple(steps)):
            script = Script(given)
            self.assertEqual(script.steps, tuple(steps))
            self.assertIsInstance(script.steps, tuple)
            self.assertEqual([script.given, script.made], ["abc", "ade "])
            self.assertEqual(script("abc"), "ade ")
            self.assertEqual(len(script), 4)
        for empty in ([], ()):
            self.assertEqual([Script(empty).steps, Script(empty).given, Script(empty).made, len(Script(empty))],
                             [(), "", "", 0])
            self.assertEqual(Script(empty)(""), "")
        self.assertEqual(Script(steps=steps).cost(), 4)

    def test_any_characters(self):
        for sign, other in itertools.permutations(STRANGE, 2):
            script = Script([("swap", sign, other), ("keep", sign), ("put", other), ("drop", sign)])
            self.assertEqual([script.given, script.made], [sign * 3, other + sign + other])
            self.assertEqual(script(sign * 3), script.made)
            self.assertEqual(least_script(sign, other).steps, (("swap", sign, other),))

    def test_what_is_no_script(self):
        good = ("keep", "a")
        wrong_steps = [
            ("swap", "a", "a"), ("keep", ""), ("keep", "ab"), ("put", ""), ("drop", "abc"), ("swap", "", "a"),
            ("swap", "a", ""), ("swap", "ab", "c"), ("swap", "a", "bc"), ("Keep", "a"), ("move", "a"), ("", "a"),
            ("keep",),
            ("swap",), ("swap", "a"), ("swap", "a", "b", "c"), ("keep", "a", "a"), ("put", "a", "b"),
            ("drop", "a", "b"),
            ["keep", "a"], "keep", "ka", 5, True, None, (), [], {}, {"keep": "a"}, ("keep", 1), ("keep", True),
            ("keep", None),
            ("keep", ("a",)), ("keep", ["a"]), ("swap", "a", True), ("swap", 0, "a"), (True, "a"), (None, "a"),
            (["keep"], "a"),
            ({}, "a"), (("keep",), "a"), ("keep", b"a"), (b"keep", "a"), Script([good]), ("keep", Script([good])),
            (Script([]), "a"), (good, good),
        ]
        for step in wrong_steps:
            for steps in ([step], (step,), [good, step], [step, good]):
                with self.assertRaises(BadScript) as caught:
                    Script(steps)
                self.assertIs(caught.exception.steps, steps)
        for thing in (None, 0, 1, True, "", "keep", b"", {}, {"keep": "a"}, {0: good}, good, ["keep", "a"],
                      Script([good]),
                      Reader(("flag",)), Console(), [[]], [None], ((),)):
            with self.assertRaises(BadScript) as caught:
                Script(thing)
            self.assertIs(caught.exception.steps, thing)

    def test_the_call(self):
        script = Script([("swap", "a", "b"), ("put", "c")])
        self.assertEqual(script(text="a"), "bc")
        for thing in ("", "b", "bc", "aa", "A", None, 0, True, b"a", ("a",), ["a"], {"a": 1}, script, Console()):
            with self.assertRaises(WrongText) as caught:
                script(thing)
            self.assertIs(caught.exception.wrong, thing)

    def test_costs(self):
        source = random.Random(131)
        for _ in range(200):
            script = random_script(source, "".join(source.choices("abc", k=source.randint(0, 8))))
            many = [sum(step[0] == form for step in script.steps) for form in ("put", "drop", "swap", "keep")]
            self.assertEqual(len(script), sum(many[:3]))
            self.assertEqual(script.cost(), sum(many[:3]))
            for prices in PRICES:
                self.assertEqual(script.cost(**priced(prices)), sum(one * price for one, price in zip(many, prices)))
            self.assertEqual(script.cost(put=9), 8 * many[0] + sum(many[:3]))
            self.assertEqual(script.cost(drop=9), 8 * many[1] + sum(many[:3]))
            self.assertEqual(script.cost(swap=9), 8 * many[2] + sum(many[:3]))
        with self.assertRaises(TypeError):
            Script([]).cost(1)

    def test_turned_around(self):
        source = random.Random(132)
        for _ in range(200):
            script = random_script(source, "".join(source.choices("abc", k=source.randint(0, 8))))
            other = ~script
            turn = {"put": "drop", "drop": "put", "keep": "keep"}
            want = tuple(("swap", step[2], step[1]) if step[0] == "swap" else (turn[step[0]], step[1])
                         for step in script.steps)
            self.assertEqual(other.steps, want)
            self.assertEqual([other.given, other.made], [script.made, script.given])
            self.assertEqual(~other, script)
            self.assertEqual(other.cost(put=3, drop=5, swap=7), script.cost(put=5, drop=3, swap=7))

    def test_sums(self):
        source = random.Random(133)
        for _ in range(600):
            first = random_script(source, "".join(source.choices("abc", k=source.randint(0, 7))))
            second = random_script(source, first.made)
            third = random_script(source, second.made)
            both = first + second
            self.assertIsInstance(both, Script)
            self.assertEqual(both.steps, second_sum(first.steps, second.steps))
            self.assertEqual([both.given, both.made], [first.given, second.made])
            self.assertEqual(both(first.given), second(first(first.given)))
            self.assertEqual((first + second) + third, first + (second + third))
            self.assertEqual(first + Script.kept(first.made), first)
            self.assertEqual(Script.kept(first.given) + first, first)
            for prices in PRICES:
                most = first.cost(**priced(prices)) + second.cost(**priced(prices))
                self.assertLessEqual(both.cost(**priced(prices)), most)

    def test_every_two_steps_at_one_character(self):
        for first in (("keep", "b"), ("put", "b"), ("swap", "a", "b")):
            for second in (("keep", "b"), ("drop", "b"), ("swap", "b", "c"), ("swap", "b", "a")):
                found = Script([first]) + Script([second])
                self.assertEqual(found.steps, second_sum([first], [second]))
        drop, put = Script([("drop", "x")]), Script([("put", "y")])
        self.assertEqual((drop + put).steps, (("drop", "x"), ("put", "y")))
        self.assertEqual((~(drop + put)).steps, (("put", "x"), ("drop", "y")))
        self.assertEqual((~put + ~drop).steps, (("drop", "y"), ("put", "x")))

    def test_sums_that_do_not_fit(self):
        first = Script([("keep", "a"), ("put", "b")])
        for given in ("", "a", "b", "ba", "abb", "aB"):
            with self.assertRaises(WrongText) as caught:
                first + Script.kept(given)
            self.assertEqual(caught.exception.wrong, given)
        self.assertEqual([first.steps, first.given, first.made], [(("keep", "a"), ("put", "b")), "a", "ab"])

    def test_kept(self):
        for text in ("", "a", "abca", "".join(STRANGE)):
            script = Script.kept(text)
            self.assertEqual(script.steps, tuple(("keep", sign) for sign in text))
            self.assertEqual([script(text), len(script), script.cost(put=9, drop=9, swap=9)], [text, 0, 0])
            self.assertEqual(script, ~script)
        self.assertEqual(Script.kept(text="ab").made, "ab")

    def test_equality(self):
        one = Script([("put", "x"), ("drop", "y")])
        self.assertTrue(one == Script((("put", "x"), ("drop", "y"))))
        self.assertFalse(one != Script((("put", "x"), ("drop", "y"))))
        for other in (Script([("drop", "y"), ("put", "x")]), Script([("swap", "y", "x")]), Script([]), Script.kept("x"),
                      one.steps, list(one.steps), None, 0, True, "y", {}, Reader(("flag",)), Console(), (one,)):
            self.assertIs(one == other, False)
            self.assertIs(one != other, True)

    def test_the_list_it_was_made_of(self):
        steps = [("put", "x"), ("keep", "y")]
        script = Script(steps)
        steps.clear()
        self.assertEqual([script.steps, script.given, script.made], [(("put", "x"), ("keep", "y")), "y", "xy"])
        self.assertEqual(script + Script.kept("xy"), script)


class LeastScripts(unittest.TestCase):
    def check(self, given, made, prices):
        script = least_script(given, made, **priced(prices))
        self.assertEqual([script.given, script.made], [given, made])
        self.assertEqual(script.cost(**priced(prices)), plain_distance(given, made, prices), (given, made, prices))

    def test_all_short_texts(self):
        texts = ["".join(word) for size in range(4) for word in itertools.product("ab", repeat=size)]
        for given, made in itertools.product(texts, texts):
            for prices in PRICES:
                self.check(given, made, prices)

    def test_longer_texts(self):
        source = random.Random(134)
        for _ in range(150):
            given, made = ["".join(source.choices("abcd", k=source.randint(0, 25))) for _ in range(2)]
            self.check(given, made, source.choice(PRICES))
            self.check(given, given[3:] + made[:4], source.choice(PRICES))
            self.assertEqual(least_script(given, given), Script.kept(given))

    def test_prices_that_are_not_given(self):
        self.assertEqual(least_script("abc", "xbd").cost(), 2)
        self.assertEqual(len(least_script("abc", "xbd", swap=3)), 4)
        self.assertEqual(len(least_script(given="ab", made="b", put=5, drop=7)), 1)
        with self.assertRaises(TypeError):
            least_script("a", "b", 1)

    def test_texts_of_400_characters(self):
        source = random.Random(135)
        for _ in range(3):
            given, made = ["".join(source.choices("ab", k=400)) for _ in range(2)]
            self.check(given, made, source.choice(PRICES))
        self.check("a" * 400, "", (3, 2, 1))
        self.check("", "a" * 400, (3, 2, 1))
        self.check("a" * 400, "b" * 400, (1, 1, 2))


if __name__ == "__main__":
    unittest.main()
