"""Repairs, against plain tables of every text of small languages."""

import copy
import itertools
import random
import time
import unittest

import samples
from soonknown.changeerrors import NoTexts
from soonknown.changes import Script
from soonknown.languages import Language
from soonknown.repairs import (farthest, floors, is_cheapest, is_floors, kept_signs, near, nearest_text, repair,
                               repair_cost, repair_count)
from test_changes import PRICES, plain_distance, priced, random_script
from test_languages import objects, random_texts

ALL = [repair_cost, nearest_text, repair, repair_count, kept_signs, floors]


def cheapest_scripts(given, made, prices):
    """All scripts from a text to another one with the least cost, as lists of steps."""
    put, drop, swap = prices
    table = {}
    for at, place in itertools.product(range(len(given) + 1), range(len(made) + 1)):
        ways = [(0, [[]])] if at == place == 0 else []
        if at:
            cost, rows = table[at - 1, place]
            ways.append((cost + drop, [row + [("drop", given[at - 1])] for row in rows]))
        if place:
            cost, rows = table[at, place - 1]
            ways.append((cost + put, [row + [("put", made[place - 1])] for row in rows]))
        if at and place:
            cost, rows = table[at - 1, place - 1]
            one, other = given[at - 1], made[place - 1]
            step = ("keep", one) if one == other else ("swap", one, other)
            ways.append((cost + (0 if one == other else swap), [row + [step] for row in rows]))
        least = min(cost for cost, _ in ways)
        table[at, place] = (least, [row for cost, rows in ways if cost == least for row in rows])
    return table[len(given), len(made)][1]


def all_moves(states, text, prices):
    """All moves of [32]: (place, place, price)."""
    put, drop, swap = prices
    found = []
    for k, s in itertools.product(range(len(text) + 1), range(len(states))):
        if k < len(text):
            found.append(((k, s), (k + 1, s), drop))
        for sign, later in states[s][1]:
            found.append(((k, s), (k, later), put))
            if k < len(text):
                found.append(((k, s), (k + 1, later), 0 if sign == text[k] else swap))
    return found


def plain_floors(states, text, prices):
    """The greatest floors: what the moves allow, lowered until nothing is too high any more."""
    moves = all_moves(states, text, prices)
    ahead = [[10 ** 9] * len(states) for _ in range(len(text) + 1)]
    behind = copy.deepcopy(ahead)
    ahead[0][0] = 0
    for s, (accepting, _) in enumerate(states):
        if accepting:
            behind[-1][s] = 0
    changed = True
    while changed:
        changed = False
        for (k, s), (j, t), price in moves:
            if ahead[j][t] > ahead[k][s] + price:
                ahead[j][t] = ahead[k][s] + price
                changed = True
            if behind[k][s] > price + behind[j][t]:
                behind[k][s] = price + behind[j][t]
                changed = True
    return ahead, behind


def are_plain_floors(states, text, prices, value):
    ahead, behind = value
    if ahead[0][0] > 0 or any(accepting and behind[-1][s] > 0 for s, (accepting, _) in enumerate(states)):
        return False
    return all(ahead[j][t] <= ahead[k][s] + price and behind[k][s] <= price + behind[j][t]
               for (k, s), (j, t), price in all_moves(states, text, prices))


def small_cases(source, many):
    """(texts of a language, a text, prices)."""
    for _ in range(many):
        signs = source.choice(["ab", "abc", "a"])
        texts = sorted(set(random_texts(source, signs, 4))) or [source.choice(["", "a", "ab"])]
        text = "".join(source.choices(signs + source.choice(["", "z"]), k=source.randint(0, 5)))
        yield texts, text, source.choice(PRICES)
    for schema in samples.small_schemas(source, many // 6, 40):
        texts = samples.documents_of(schema)
        text = source.choice(texts)[:12]
        if max(map(len, texts)) < 16:
            at = source.randint(0, len(text))
            text = text[:at] + source.choice(["", "?", "1", "ab"]) + text[at + source.randint(0, 2):]
            yield texts, text, source.choice(PRICES)


class Repairs(unittest.TestCase):
    def test_against_all_scripts(self):
        for texts, text, prices in small_cases(random.Random(161), 250):
            language, named = Language.listed(texts), priced(prices)
            costs = {other: plain_distance(text, other, prices) for other in texts}
            least = min(costs.values())
            nearest = min((other for other in texts if costs[other] == least), key=lambda other: (len(other), other))
            told = (texts, text, prices)
            self.assertEqual(repair_cost(language, text, **named), least, told)
            self.assertEqual(nearest_text(language, text, **named), nearest, told)
            script = repair(language, text, **named)
            self.assertEqual([script.given, script.made, script.cost(**named)], [text, nearest, least], told)
            scripts = [row for other in texts if costs[other] == least for row in cheapest_scripts(text, other, prices)]
            self.assertEqual(repair_count(language, text, **named), len(scripts), told)
            self.check_kept(language, text, named, scripts)
            self.check_cheapest(language, text, prices, scripts)
            for most in {0, 1, least - 1, least, least + 1, max(costs.values()), 10 ** 6} - {-1}:
                wanted = Language.listed([other for other in texts if costs[other] <= most])
                self.assertEqual(near(language, text, most, **named), wanted, told)
            self.assertEqual(language, Language.listed(texts))

    def check_kept(self, language, text, named, scripts):
        kept = []
        for row in scripts:
            forms = [step[0] for step in row if step[0] != "put"]
            kept.append([form == "keep" for form in forms])
        wanted = []
        for at in range(len(text)):
            column = [row[at] for row in kept]
            wanted.append("always" if all(column) else "sometimes" if any(column) else "never")
        self.assertEqual(kept_signs(language, text, **named), wanted)

    def check_cheapest(self, language, text, prices, scripts):
        named = priced(prices)
        for row in scripts[:5]:
            self.assertIs(is_cheapest(language, text, Script(row), **named), True)
            self.assertIs(is_cheapest(language, text, row, **named), False)
            self.assertIs(is_cheapest(language, text + "a", Script(row), **named), False)
            for at in range(len(row)):
                for step in (("put", "a"), ("drop", "a"), ("keep", "a"), ("swap", "a", "b"), None):
                    other = Script([*row[:at], *([step] if step else []), *row[at + 1:]])
                    want = other.given == text and other.made in language
                    want = want and other.cost(**named) == Script(row).cost(**named)
                    self.assertIs(is_cheapest(language, text, other, **named), want)
                    longer = Script([*row[:at], ("put", "a"), *row[at:]])
                    want = longer.made in language and longer.cost(**named) == Script(row).cost(**named)
                    self.assertIs(is_cheapest(language, text, longer, **named), want)

    def test_the_example_of_the_document(self):
        language = Language.listed(["ab"])
        self.assertEqual([repair_cost(language, "ba"), repair_count(language, "ba")], [2, 3])
        self.assertEqual(kept_signs(language, "ba"), ["sometimes", "sometimes"])
        for steps in ([("swap", "b", "a"), ("swap", "a", "b")], [("put", "a"), ("keep", "b"), ("drop", "a")],
                      [("drop", "b"), ("keep", "a"), ("put", "b")]):
            self.assertTrue(is_cheapest(language, "ba", Script(steps)))
        self.assertEqual([repair_count(language, "ba", swap=2), kept_signs(language, "ba", swap=3)],
                         [2, ["sometimes"] * 2])
        self.assertEqual(kept_signs(Language.listed(["axb"]), "axyb"), ["always", "always", "never", "always"])

    def test_other_values(self):
        language = Language.listed(["a", "b"])
        for thing in objects() + [("keep", "a"), (("keep", "a"),), [("keep", "a")], "a", 0, Script.kept("b"),
                                  Script.kept("")]:
            self.assertIs(is_cheapest(language, "a", thing), False)
            self.assertIs(is_floors(language, "a", thing), False)
            for pair in ((thing, thing), (thing, [[0, 0], [0, 0]]), ([[0, 0], [0, 0]], thing), ([thing], [thing]),
                         ([[0, 0], thing], [[0, 0], [0, 0]]), ([[0, 0], [0, thing]], [[0, 0], [0, 0]])
                         if thing != 0 else ()):
                self.assertIs(is_floors(language, "a", pair), False)
        self.assertTrue(is_cheapest(language, "a", Script.kept("a")))
        fine = ([[0, 0], [0, 0]], [[0, 0], [0, 0]])
        self.assertTrue(is_floors(language, "a", fine))
        for other in (list(fine), (*fine, []), fine[:1], (tuple(fine[0]), fine[1]), ([(0, 0), [0, 0]], fine[1]),
                      ([[0, 0]], fine[1]), (fine[0], [[0, 0], [0, 0], [0, 0]]), ([[0], [0]], fine[1]),
                      ([[0, 0, 0]] * 2, fine[1]),
                      ([[False, 0], [0, 0]], fine[1]), ([[0, 0], [0, None]], fine[1]), (fine[0], [[0, 0], [0, 0.0]]),
                      ({0: [0, 0], 1: [0, 0]}, fine[1]), ("00", "00"), ([[0, "0"], [0, 0]], fine[1])):
            self.assertIs(is_floors(language, "a", other), False)

    def test_floors(self):
        source = random.Random(162)
        for texts, text, prices in small_cases(source, 150):
            language, named = Language.listed(texts), priced(prices)
            states = language.states()
            found = floors(language, text, **named)
            self.assertEqual(found, plain_floors(states, text, prices))
            self.assertIs(type(found), tuple)
            self.assertEqual(found[1][0][0], repair_cost(language, text, **named))
            self.assertTrue(is_floors(language, text, found, **named))
            lists = [found[0], found[1], *found[0], *found[1]]
            self.assertEqual(len({id(thing) for thing in lists}), len(lists))
            low = tuple([[[cell - 10 ** 20 for cell in row] for row in table] for table in found])
            self.assertTrue(is_floors(language, text, low, **named))
            for _ in range(25):
                value = copy.deepcopy(found)
                row = source.choice(source.choice(value))
                at = source.randrange(len(row))
                row[at] += source.choice([-3, -2, -1, 1, 2, 10 ** 13])
                self.assertIs(is_floors(language, text, value, **named), are_plain_floors(states, text, prices, value))
            for side in (0, 1):
                value = copy.deepcopy(found)
                value[side].append(list(value[side][-1]))
                self.assertIs(is_floors(language, text, value, **named), False)
                value = copy.deepcopy(found)
                source.choice(value[side]).append(0)
                self.assertIs(is_floors(language, text, value, **named), False)
                value = copy.deepcopy(found)
                source.choice(value[side]).pop()
                self.assertIs(is_floors(language, text, value, **named), False)

    def test_farthest(self):
        source = random.Random(163)
        for _ in range(250):
            first = sorted(set(random_texts(source, "abc", 5))) or ["a"]
            second = sorted(set(random_texts(source, "abd", 4))) or [""]
            prices = source.choice(PRICES)
            costs = {text: min(plain_distance(text, other, prices) for other in second) for text in first}
            most = max(costs.values())
            wanted = min((text for text in first if costs[text] == most), key=lambda text: (len(text), text))
            found = farthest(Language.listed(first), Language.listed(second), **priced(prices))
            self.assertEqual(found, (most, wanted))
        numbers, others = Language.of(("integer", 0, 999)), Language.of(("integer", -20, 99))
        costs = {text: min(plain_distance(text, str(other), (1, 2, 2)) for other in range(-20, 100)) for text in
                 [str(number) for number in range(0, 1000, 37)]}
        distance, text = farthest(numbers, others, drop=2, swap=2)
        self.assertGreaterEqual(distance, max(costs.values()))
        self.assertEqual(distance, repair_cost(others, text, drop=2, swap=2))

    def test_no_texts(self):
        none, one = Language.listed([]), Language.listed(["a"])
        for text in ("", "a", "abc"):
            for function in ALL:
                with self.assertRaises(NoTexts) as caught:
                    function(none, text)
                self.assertEqual(caught.exception.wrong, text)
            for value in (None, Script([]), ([[0]], [[0]]), ([[0]] * (len(text) + 1), [[0]] * (len(text) + 1))):
                for function in (is_cheapest, is_floors):
                    with self.assertRaises(NoTexts) as caught:
                        function(none, text, value)
                    self.assertEqual(caught.exception.wrong, text)
            for most in (0, 1, 10 ** 6):
                self.assertEqual(near(none, text, most), none)
        for first, second in ((none, one), (one, none), (none, none)):
            with self.assertRaises(NoTexts) as caught:
                farthest(first, second)
            self.assertIsNone(caught.exception.wrong)
        self.assertEqual(farthest(one, one), (0, "a"))

    def test_names_of_arguments(self):
        language = Language.listed(["a"])
        self.assertEqual(repair_cost(language=language, text="b", put=2, drop=2, swap=5), 4)
        self.assertEqual(near(language=language, text="b", most=1).count, 1)
        self.assertEqual(farthest(first=language, second=language), (0, "a"))
        self.assertTrue(is_cheapest(language=language, text="b", value=Script([("swap", "b", "a")])))
        self.assertTrue(is_floors(language=language, text="", value=([[0, 0]], [[0, 0]])))
        for function in ALL:
            function(language=language, text="b", put=1, drop=1, swap=1)
            with self.assertRaises(TypeError):
                function(language, "b", 1)
        with self.assertRaises(TypeError):
            near(language, "b", 1, 1)


class Sizes(unittest.TestCase):
    """Texts of 400 characters, languages of 300 states."""

    def test_long_texts(self):
        source = random.Random(164)
        begin = time.perf_counter()
        word = ("text", "", "abcdefghijklmnopqrstuvwxyz", 0, 12)
        great = Language.of(("list", (("list", (), word, 0, 8), ("list", (), word, 1, 8)), ("flag",), 2, 5))
        thin = Language.listed(["".join(source.choices("ab", k=290)) for _ in range(1)])
        wide = Language.listed(["a" * at + "b" * (149 - at) + "c" for at in range(0, 150, 2)])
        for language in (great, thin, wide):
            self.assertLessEqual(len(language.states()), 320)
            for text in ("".join(source.choices("[]abc,\"tf", k=400)), "a" * 400, ""):
                prices = source.choice(PRICES)
                named = priced(prices)
                cost = repair_cost(language, text, **named)
                script = repair(language, text, **named)
                self.assertEqual([script.given, script.cost(**named)], [text, cost])
                self.assertTrue(is_cheapest(language, text, script, **named))
                self.assertEqual(script.made, nearest_text(language, text, **named))
                self.assertGreaterEqual(repair_count(language, text, **named), 1)
                self.assertEqual(len(kept_signs(language, text, **named)), len(text))
                found = floors(language, text, **named)
                self.assertEqual(found[1][0][0], cost)
                self.assertTrue(is_floors(language, text, found, **named))
        self.assertLess(time.perf_counter() - begin, 60)

    def test_a_thousand_texts(self):
        source = random.Random(165)
        begin = time.perf_counter()
        # Ten places at which one of two things stands, far from each other.
        texts = [""]
        for _ in range(10):
            middle = "".join(source.choices("abcd", k=13))
            texts = [text + sign + middle for text in texts for sign in "xy"]
        texts = texts[:1000]
        language = Language.listed(texts)
        self.assertLessEqual(len(language.states()), 300)
        text = "".join(source.choices("abcdxy", k=400))
        costs = {other: repair_cost(Language.listed([other]), text) for other in source.sample(texts, 20)}
        for most in (min(costs.values()), sum(costs.values()) // 20, 10 ** 6):
            found = near(language, text, most)
            for other, cost in costs.items():
                self.assertIs(other in found, cost <= most)
        second = Language.listed(["a" * at + "b" * (140 - at) for at in range(140)])
        distance, text = farthest(language, second)
        self.assertEqual(distance, repair_cost(second, text))
        for other in costs:
            self.assertLessEqual(repair_cost(second, other), distance)
        self.assertLess(time.perf_counter() - begin, 60)


if __name__ == "__main__":
    unittest.main()
