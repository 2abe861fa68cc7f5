"""The texts of schemas, against a second way of writing them and a second way of reading them."""

import random
import re
import unittest

import samples
from soonknown.errors import BadSchema
from soonknown.schemas import is_schema
from soonknown.texts import parse_schema, schema_text
from test_knowledge import containers_of, exact

LETTERS = "abcdefghijklmnopqrstuvwxyz"
# The form of [24] as a grammar: a capital word stands for one of its rows, everything else for its characters.
GRAMMAR = {
    "S": ["int R", "flag", "one of W V", 'text W N R', "= D", "[*S; X", "[S, L", "{}", "{M K", "same N",
          "(S | S A"], "X": ["R]", "N]"],
    "L": ["*S; R]", "S, L"], "M": ["N: S", "N?: S"], "K": ["}", ", M K"], "A": [")", " | S A"],
    "W": ['"P"'], "V": ["", " W V"], "N": ["lP"], "P": ["", "lP"], "R": ["I..I"], "I": ["0", "nQ", "-nQ"],
    "Q": ["", "dQ"], "D": ["I", "true", "false", "W", "[]", "[D E", "{}", '{"N":D F'],
    "E": ["]", ",D E"], "F": ["}", ',"N":D F'],
}
# In the rows above a space beside these words is no character.
for head, rows in GRAMMAR.items():
    GRAMMAR[head] = [row.replace("W V", "WV").replace("M K", "MK").replace("S A", "SA").replace("D E", "DE")
                     .replace("D F", "DF") for row in rows]
CLASSES = {"l": LETTERS, "n": "123456789", "d": "0123456789"}


def symbols(row):
    """The symbols of a row: rows and classes in capitals and by sign, words of the text by single characters."""
    plain = {"int R": ["i", "n", "t", " "], "flag": list("flag"), "true": list("true"), "false": list("false"),
             "same N": list("same ")}
    if row in plain:
        return [("char", sign) for sign in plain[row]] + [("row", sign) for sign in row if sign in "RN"]
    if row.startswith("one of "):
        return [("char", sign) for sign in "one of "] + [("row", "W"), ("row", "V")]
    if row.startswith("text "):
        return [("char", sign) for sign in "text "] + [("row", "W"), ("char", " "), ("row", "N"), ("char", " "),
                                                       ("row", "R")]
    found = []
    for sign in row:
        kind = "row" if sign in GRAMMAR else "class" if sign in CLASSES else "char"
        found.append((kind, sign))
    return found


SYMBOLS = {head: [tuple(symbols(row)) for row in rows] for head, rows in GRAMMAR.items()}


NODES = [None]
NODE_NUMBERS = {}
AFTER = {}


def node(symbol, below):
    """The number of a stack with a symbol on top of another stack; 0 is the empty one."""
    if (symbol, below) not in NODE_NUMBERS:
        NODE_NUMBERS[symbol, below] = len(NODES)
        NODES.append((symbol, below))
    return NODE_NUMBERS[symbol, below]


def closed(stacks):
    """All stacks to which some stacks lead without reading a character."""
    found, waiting = set(), list(stacks)
    while waiting:
        stack = waiting.pop()
        if stack != 0 and NODES[stack][0][0] == "row":
            for row in SYMBOLS[NODES[stack][0][1]]:
                longer = NODES[stack][1]
                for symbol in reversed(row):
                    longer = node(symbol, longer)
                waiting.append(longer)
        else:
            found.add(stack)
    return frozenset(found)


def after(stacks, sign):
    """All stacks behind a character."""
    if (stacks, sign) not in AFTER:
        found = set()
        for (kind, wanted), below in [NODES[stack] for stack in stacks if stack != 0]:
            if sign == wanted if kind == "char" else sign in CLASSES[wanted]:
                found.add(below)
        AFTER[stacks, sign] = closed(found)
    return AFTER[stacks, sign]


def second_reading(text):
    """The index of the first character that cannot stand there; None if the form is right and not too long."""
    stacks = closed([node(("row", "S"), 0)])
    opened = 0
    for at, sign in enumerate(text[:2000]):
        opened += (sign in "[{(") - (sign in "]})")
        stacks = after(stacks, sign)
        if not stacks or opened > 40:
            return at
    if len(text) > 2000 or 0 not in stacks:
        return min(len(text), 2000)
    return None


class Tokens:
    """A second reading of texts whose form is right: the tuples that they stand for."""

    def __init__(self, text):
        self.words = re.findall(r'"[a-z]*"|-?[0-9]+|\.\.|[a-z]+|[^ ]', text)
        self.orderly = True

    def next(self):
        return self.words.pop(0)

    def until(self, end, read):
        found = []
        while self.words[0] != end:
            found.append(read())
            if self.words[0] in (",", "|"):
                self.next()
        self.next()
        return found

    def bounds(self):
        least = int(self.next())
        self.next()
        return least, int(self.next())

    def schema(self):
        word = self.next()
        if word == "int":
            return ("integer", *self.bounds())
        if word == "flag":
            return ("flag",)
        if word == "one":
            self.next()
            words = []
            while self.words and self.words[0].startswith('"'):
                words.append(self.next()[1:-1])
            return ("choice", tuple(words))
        if word == "text":
            return ("text", self.next()[1:-1], self.next(), *self.bounds())
        if word == "=":
            return ("just", self.value())
        if word == "same":
            return ("repeat", self.next())
        if word == "{":
            return ("record", tuple(self.until("}", self.member)))
        if word == "(":
            return ("either", tuple(self.until(")", self.schema)))
        leading = []
        while self.words[0] != "*":
            leading.append(self.schema())
            self.next()
        self.next()
        item = self.schema()
        self.next()
        if self.words[0].isalpha():
            found = ("sized", item, self.next())
        else:
            found = ("list", tuple(leading), item, *self.bounds())
        self.next()
        return found

    def member(self):
        name, mark = self.next(), self.next()
        if mark == "?":
            self.next()
        return (name, self.schema(), mark == ":")

    def value(self):
        word = self.next()
        if word == "[":
            return self.until("]", self.value)
        if word == "{":
            pairs = self.until("}", self.pair)
            names = [name for name, _ in pairs]
            self.orderly = self.orderly and names == sorted(set(names))
            return dict(pairs)
        if word.startswith('"'):
            return word[1:-1]
        return word == "true" if word in ("true", "false") else int(word)

    def pair(self):
        name, _ = self.next(), self.next()
        return name[1:-1], self.value()


def second_writing(schema):
    """The text of a schema, by patterns."""
    form, *told = schema
    if form == "integer":
        return "int {}..{}".format(*told)
    if form == "choice":
        return "one of" + "".join(f' "{word}"' for word in told[0])
    if form == "text":
        return 'text "{}" {} {}..{}'.format(*told)
    if form == "just":
        return "= " + samples.plain_document(told[0])
    if form == "list":
        leading = "".join(second_writing(part) + ", " for part in told[0])
        return "[{}*{}; {}..{}]".format(leading, second_writing(told[1]), *told[2:])
    if form == "record":
        return "{%s}" % ", ".join(f"{name}{'' if required else '?'}: {second_writing(part)}"
                                  for name, part, required in told[0])
    if form == "sized":
        return "[*{}; {}]".format(second_writing(told[0]), told[1])
    if form == "either":
        return "(%s)" % " | ".join(map(second_writing, told[0]))
    return {"flag": "flag", "repeat": "same {}"}[form].format(*told)


def some_schemas(source, many):
    found = samples.small_schemas(source, many)
    found += [("list", (), schema, 0, 8) for schema in source.sample(found, many // 4)]
    return found + [
        ("integer", -10 ** 9, 10 ** 9), ("text", "", LETTERS, 0, 12), ("text", "a" * 12, "z", 12, 12),
        ("choice", tuple(sorted({"", *"abcdefghijk"}))), ("just", {"a": {}, "b": [[], ""], "zz": -5}),
        ("record", ()), ("record", tuple((name * 8, ("flag",), name < "d") for name in "abcdefgh")),
        ("list", (("flag",),) * 8, ("just", {}), 8, 8),
    ]


class Texts(unittest.TestCase):
    def outcome(self, text):
        """The schema of a text, or the position of the error."""
        try:
            return parse_schema(text)
        except BadSchema as error:
            return error.position

    def check(self, text):
        """Compare what a text is with the second reading."""
        found = self.outcome(text)
        wrong = second_reading(text)
        if wrong is not None:
            self.assertEqual(found, wrong, text)
            return
        tokens = Tokens(text)
        schema = tokens.schema()
        if tokens.orderly and is_schema(schema):
            self.assertEqual(exact(found), exact(schema), text)
        else:
            self.assertEqual(found, -1, text)

    def test_schemas_of_every_form(self):
        for schema in some_schemas(random.Random(111), 500):
            text = schema_text(schema)
            self.assertEqual(text, second_writing(schema))
            if len(text) > 2000:
                self.assertEqual(self.outcome(text), 2000)
            else:
                self.assertEqual(exact(parse_schema(text)), exact(schema))

    def test_texts_that_are_too_long_are_refused(self):
        schema = ("list", (), ("just", ["a" * 12] * 8), 0, 8)
        schema = ("record", tuple((name, schema, True) for name in "abcdefgh"))
        schema = ("list", (schema, schema), schema, 2, 3)
        self.assertTrue(is_schema(schema))
        self.assertGreater(len(schema_text(schema)), 2000)
        self.assertEqual(schema_text(schema), second_writing(schema))
        self.assertEqual(self.outcome(schema_text(schema)), 2000)

    def test_texts_cut_at_every_place(self):
        for schema in some_schemas(random.Random(112), 60):
            text = schema_text(schema)
            if len(text) < 300:
                for cut in range(len(text)):
                    self.check(text[:cut])

    def test_changed_texts(self):
        source = random.Random(113)
        signs = list('[](){}*;:,.|?="-0917 abfiorstz\n') + ["A", "\u00e9", "\u0663", "_", "'"]
        words = ["int ", "flag", "one of ", "text ", "= ", "same ", " | ", ", ", "; ", ": ", "?: ", "..", "[*", "*",
                 '"a"', ' "b"', "true", "[]", "{}", "-1", "00", "12", 'a', "[1]", '{"a":1}', "[*flag; 0..1]"]
        for schema in some_schemas(source, 250):
            text = schema_text(schema)
            if len(text) < 300:
                parts = re.findall(r'"[a-z]*"|-?[0-9]+|\.\.|[a-z]+|.', text)
                for _ in range(12):
                    at = source.randrange(len(text) + 1)
                    put = source.choice(signs + words)
                    self.check(text[:at] + put + text[at:])
                    self.check(text[:at] + text[at + 1:])
                    self.check(text[:at] + source.choice(signs) + text[at + 1:])
                    place = source.randrange(len(parts))
                    self.check("".join(parts[:place] + [put] + parts[place + 1:]))
                    self.check("".join(parts[:place] + parts[place + 1:]))
                    self.check("".join(parts[:place] + parts[place:place + 1] * 2 + parts[place + 1:]))

    def test_forms_that_are_no_schema(self):
        fine = "record of a size"
        for text in (
                "int 5..3", "int 0..1000000001", "int -1000000001..0", 'one of "a" "a"', 'one of "b" "a"',
                'one of "aaaaaaaaaaaaa"', "one of " + " ".join(f'"{sign}"' for sign in LETTERS[:13]),
                'text "a" b 0..1', 'text "" ba 0..1', 'text "" aa 0..1', 'text "" a 0..13', 'text "" a 2..1',
                'text "aaaaaaaaaaaaa" a 13..13', "text \"\" %s 0..1" % (LETTERS + "a"), 'text "" a -1..1',
                "= 1000000001", "= [0,0,0,0,0,0,0,0,0]", '= "aaaaaaaaaaaaa"', '= {"aaaaaaaaa":1}', "= [[[[[[[]]]]]]]",
                '= {"b":1,"a":2}', '= {"a":1,"a":1}', '= [{"a":{"c":0,"b":0}}]', "[*flag; 1..0]", "[*flag; 0..9]",
                "[flag, *flag; 0..1]", "[*flag; -1..1]", "[*" * 6 + "flag" + "; 0..1]" * 6, "{a: flag, a: flag}",
                "{b: flag, a: flag}", "{aaaaaaaaa: flag}", "{%s}" % ", ".join(f"{sign}: flag" for sign in LETTERS[:9]),
                "same a", "[*flag; a]", "{a: same a}", "{a: flag, b: [*flag; a]}", "{a?: flag, b: same a}",
                "{a: int 0..40, b: same a}", "{a: int 0..9, b: [*flag; a]}", "{a: int 0..3, b: [*same a; 0..1]}",
                "{a: int 0..3, b: (same a | flag)}", "{b: same c, c: flag}", "(flag | flag)", "(= 1 | int 0..3)",
                "(flag | (= 1 | = 2))", "(%s)" % " | ".join(f"= {number}" for number in range(6)),
                '(one of "a" | text "" a 1..1)', "((flag | = 1) | = 2)"):
            self.assertEqual(self.outcome(text), -1, text)
            self.assertIsNone(second_reading(text), fine)

    def test_right_texts(self):
        for text, schema in (
                ("{a: int 0..3, b?: same a}",
                 ("record", (("a", ("integer", 0, 3), True), ("b", ("repeat", "a"), False)))),
                ("[*flag; 0..8]", ("list", (), ("flag",), 0, 8)), ("{}", ("record", ())), ("= {}", ("just", {})),
                ("{a: = 2, b: [*flag; a]}",
                 ("record", (("a", ("just", 2), True), ("b", ("sized", ("flag",), "a"), True)))),
                ('(one of "" "a" | int -5..-1 | flag)',
                 ("either", (("choice", ("", "a")), ("integer", -5, -1), ("flag",)))),
                ('(one of "" | one of "a")', ("either", (("choice", ("",)), ("choice", ("a",))))),
                ('= {"a":[{"b":true}]}', ("just", {"a": [{"b": True}]})), ("= [[[[[[]]]]]]", ("just", [[[[[[]]]]]])),
                ('text "" a 0..0', ("text", "", "a", 0, 0)), ('= ""', ("just", ""))):
            self.assertEqual(exact(parse_schema(text)), exact(schema))
            self.assertEqual(schema_text(schema), text)

    def test_positions(self):
        for text, position in (
                ("", 0), (" flag", 0), ("flag ", 4), ("Flag", 0), ("flags", 4), ("int 0..", 7), ("int -0..1", 5),
                ("int 00..1", 5), ("int 01..1", 5), ("int -..1", 5), ("int 0 ..1", 5), ("int +1..1", 4),
                ("int 0...1", 7),
                ('one of ', 7), ('one of "a" ', 11), ('one of "a" x', 11), ('one of "a"  "b"', 11), ('one of "A"', 8),
                ('one of "a" |', 11), ('(one of "a" |', 13), ('(one of "a" ; flag)', 12), ('(one of "a"| flag)', 11),
                ('(one of "a" "b")', 15), ('([*one of "a" | flag)', 14), ('text "a"  0..1', 9), ('text "a" 0..1', 9),
                ("text a b 0..1", 5), ("=1", 1), ("=  1", 2), ("= 1 ", 3), ("= [1, 2]", 5), ("= [1,]", 5),
                ("= [,1]", 3),
                ('= {"":1}', 4), ('= {"a" :1}', 6), ('= {a:1}', 3), ('= {"a":1,}', 9), ("= nul", 2), ("= tru ", 5),
                ("= 1.5", 3), ("[flag; 0..1]", 5), ("[]", 1), ("[*flag, 0..1]", 6), ("[flag, *flag; a]", 14),
                ("[*flag; A]", 8), ("[*flag; ]", 8), ("[*flag; 0..1", 12), ("[*flag; a", 9), ("[*flag; a..b]", 9),
                ("{ }", 1), ("{a: flag, }", 10), ("{a:flag}", 3), ("{a ?: flag}", 2), ("{a? : flag}", 3),
                ("{: flag}", 1),
                ("(flag)", 5), ("()", 1), ("(flag | )", 8), ("(flag |flag)", 7), ("(flag| flag)", 5), ("same ", 5),
                ("same A", 5), ("samea", 4), ("\u0663", 0), ("int \u0663..4", 4), ("int 1..4\u0663", 8),
                ('one of "\u00e9"', 8), ("flag\n", 4), ("flag\x00", 4)):
            self.assertEqual(self.outcome(text), position, text)
            self.check(text)

    def test_open_brackets(self):
        source = random.Random(114)
        opening = {"[": ("[*", "; 0..1]"), "{": ("{a: ", "}"), "(": ("(", " | flag)")}
        inside = {"[": ("[", "]"), "{": ('{"a":', "}")}
        for kinds in ["[" * 40, "{" * 40, "(" * 40] + ["".join(source.choices("[{(", k=40)) for _ in range(9)]:
            begin = "".join(opening[kind][0] for kind in kinds)
            end = "".join(opening[kind][1] for kind in reversed(kinds))
            self.assertEqual(self.outcome(begin + "flag" + end), -1)
            self.check(begin + "flag" + end[:-1])
            for kind in "[{(":
                self.assertEqual(self.outcome(begin + kind), len(begin))
            self.assertEqual(self.outcome(begin + "= []" + end), len(begin) + 2)
            self.assertEqual(self.outcome(begin + "= {}" + end), len(begin) + 2)
            # What is closed is not open: many more brackets, one after the other.
            self.assertEqual(self.outcome(opening["("][0] + "[*flag; 0..1] | " * 60 + "flag)"), -1)
        for many in (1, 20, 39, 40, 41, 60):
            kinds = "".join(source.choices("[{", k=many))
            text = "= " + "".join(inside[kind][0] for kind in kinds) + "0"
            end = "".join(inside[kind][1] for kind in reversed(kinds))
            want = self.outcome(text + end)
            self.check(text + end)
            if many > 40:
                self.assertEqual(want, len("= " + "".join(inside[kind][0] for kind in kinds[:40])))
            for cut in range(len(text)):
                self.check(text[:cut])

    def test_lengths_about_2000(self):
        def filled(many):
            """A right text of so many characters."""
            row = ["a" * 12] * 8
            size = many - 1889
            words = ["a" * (size // 16 + (at < size - size // 16 * 16)) for at in range(16)]
            return "= " + samples.plain_document([[row] * 8, [row] * 7, words[:8], words[8:]])

        for many in range(1980, 2006):
            text = filled(many)
            self.assertEqual(len(text), many)
            self.assertIsNone(second_reading(text[:2000]) if many <= 2000 else None)
            if many <= 2000:
                self.assertEqual(second_writing(parse_schema(text)), text)
            else:
                self.assertEqual(self.outcome(text), 2000)
            for at in (5, 1000, 1979, 1990, 1999, 2000, 2003):
                self.check(text[:at] + "?" + text[at:])
                self.check(text[:at] + "?" + text[at + 1:])
            self.check(text + " ")
            self.check(text + "\n")
            self.check(text[:-1])
        long = "int 0.." + "9" * 1993
        self.assertEqual([len(long), self.outcome(long), self.outcome(long + "9"), self.outcome(long[:-1] + "x")],
                         [2000, -1, 2000, 1999])
        self.assertEqual(self.outcome("flag" + "x" * 5000), 4)
        self.assertEqual(self.outcome("flag" * 1000), 4)
        self.assertEqual(self.outcome('one of "' + "a" * 10 ** 6), 2000)

    def test_long_parts(self):
        for text in ("int 0.." + "9" * 100, "int -" + "9" * 100 + ".." + "1" * 99, "= " + "1" * 100,
                     "same " + "a" * 300,
                     '= "' + "a" * 300 + '"', "{" + "a" * 300 + ": flag}", 'text "" ' + "a" * 300 + " 0..1",
                     'one of "' + "a" * 300 + '"', '= {"' + "b" * 300 + '":0}', "[*flag; " + "a" * 300 + "]",
                     "= [" + ",".join("0" * 9) + "]", "= {" + ",".join(f'"{sign}":0' for sign in LETTERS) + "}"):
            self.assertEqual(self.outcome(text), -1)
            self.check(text)
            self.check(text[:-1])
            self.check(text + "0")

    def test_things_that_are_no_strings(self):
        for thing in (None, 0, 1, True, b"flag", ("flag",), ["flag"], {}, {"flag": 1}, ()):
            self.assertEqual(self.outcome(thing), 0)

    def test_no_two_lists_are_one(self):
        inner = [1]
        schema = ("list", (("just", inner), ("just", [inner, inner])), ("just", inner), 2, 8)
        found = parse_schema(schema_text(schema))
        self.assertEqual(found, schema)
        lists = containers_of(found)
        self.assertEqual(len({id(thing) for thing in lists}), 5)
        for thing in lists:
            thing.clear()
        self.assertEqual(schema, ("list", (("just", [1]), ("just", [[1], [1]])), ("just", [1]), 2, 8))
        self.assertEqual(parse_schema(schema_text(schema)), schema)

    def test_names_of_arguments(self):
        self.assertEqual(schema_text(schema=("flag",)), "flag")
        self.assertEqual(parse_schema(text="flag"), ("flag",))


if __name__ == "__main__":
    unittest.main()
