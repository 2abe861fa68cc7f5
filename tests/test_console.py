"""The console, against a reader and the functions on completions."""

import random
import sys
import unittest

import samples
from soonknown import completions
from soonknown.console import Console
from soonknown.errors import (BadCommand, BadSchema, NoPath, NoRoom, NoSuchCompletion, NotOffered, SchemaError, TooFar)
from soonknown.numerals import decimal
from soonknown.reader import Reader
from soonknown.texts import parse_schema, schema_text
from test_knowledge import plain_paths

NO_COMMANDS = [
    "", " ", "  ", "help", "Text", "TEXT", "text ", " text", "text x", "next 1", "forced ", "complete yes", "count 1",
    "first 1", "shortest ", "schema", "feed", "feed ", "limit", "limit ", "limit 401", "limit 1000", "limit 01",
    "limit -1",
    "limit None", "limit none ", "limit  5", "limit 5 5", "limit 5 ", "limit +5", "limit 5.0", "limit \u0665",
    "limit 1_0",
    "limit " + "9" * 60, "limit " + "1" * 61, "back", "back ", "back -1", "back 00", "back 01", "back x", "back 1 1",
    "back  1", "back 1 ", "back \u0661", "back " + "1" * 61, "back 0" + "1" * 59, "pick", "pick ", "pick -1", "pick 00",
    "pick 1 ", "pick 1 1", "pick " + "9" * 61, "pick one", "pick \u00b2", "known ", "known a", "known 0", "known ..",
    "known .a.", "known ..a", "known .a..b", "known .A", "known .a-b", "known .-1", "known .00", "known .01",
    "known .a.01",
    "known .0a", "known .a0", "known . ", "known .a .b", "known  .a", "known .a b", "known .\u00e9", "known .\u0663",
    "known ." + "1" * 61, "known .0" + "1" * 59, "known .a\n", "known ()", "known .\"a\"", "text\n", "\ntext", "reset",
    "quit",
    "feeda", "schemaflag", "limitnone", "known.", "known.a", "back1", None, 0, 5, True, b"text", ("text",), ["text"],
    {"text": 1}, (), [], {}, [["text"]], ("feed", "1"),
]


def second_knowledge(knowledge):
    """A knowledge as [25] writes it."""
    if knowledge is None:
        return "gone"
    form, *told = knowledge
    if form == "value":
        return "= " + samples.plain_document(told[0])
    if form == "record":
        marks = {"always": "!", "sometimes": "?"}
        return "record" + "".join(" " + name + marks[presence] for name, presence, _ in told[0])
    if form == "mixed":
        return "mixed" + "".join(" " + kind for kind in told[0])
    return {"flag": "flag", "integer": "int {}..{}", "string": 'text "{}" {}..{}',
            "list": "list {}..{}"}[form].format(*told)


def second_path(path):
    return "." if path == () else "".join(f".{step}" for step in path)


class Model:
    """What a console should answer, by a reader and the functions on completions."""

    def __init__(self):
        self.begin(("integer", 0, 9))

    def begin(self, schema):
        self.schema, self.limit, self.reader = schema, None, Reader(schema)

    def say(self, command):
        words = command.split(" ", 1)
        text = self.reader.text()
        if words[0] == "schema":
            self.begin(parse_schema(words[1]))
            return "ok"
        if words[0] == "limit":
            limit = None if words[1] == "none" else int(words[1])
            self.reader = self.reader.with_limit(limit)
            self.limit = limit
            return "ok"
        if words[0] == "feed":
            events = self.reader.feed(words[1])
            return "\n".join(second_path(path) + " " + second_knowledge(told) for path, told in events) or "nothing"
        if words[0] == "back":
            self.reader.back(int(words[1]))
            return "ok"
        if words[0] == "pick":
            return completions.completion(self.schema, text, int(words[1]), limit=self.limit)
        if words[0] == "known":
            path = [] if command in ("known", "known .") else words[1][1:].split(".")
            path = tuple(int(step) if step.isdigit() else step for step in path)
            for other, told in plain_paths(self.reader.known()):
                if other == path:
                    return second_knowledge(told)
            raise NoPath(path)
        return {
            "text": lambda: text, "next": lambda: "".join(self.reader.offered()) or "none",
            "forced": lambda: completions.forced_text(self.schema, text, limit=self.limit),
            "complete": lambda: "yes" if completions.is_complete(self.schema, text) else "no",
            "count": lambda: str(completions.count(self.schema, text, limit=self.limit)),
            "first": lambda: completions.completion(self.schema, text, 0, limit=self.limit),
            "shortest": lambda: completions.shortest(self.schema, text, limit=self.limit),
        }[command]()


def outcome(console, command):
    """The answer to a command, or what its error is and stores."""
    try:
        return console.say(command)
    except SchemaError as error:
        return type(error), vars(error)


class Consoles(unittest.TestCase):
    PLAIN = ["text", "next", "forced", "complete", "count", "first", "shortest", "known", "known ."]

    def refuse(self, console, command, error, stored):
        self.assertEqual(outcome(console, command), (error, stored), command)

    def state(self, console):
        return [console.say(word) for word in self.PLAIN]

    def random_command(self, source, model, document):
        text = model.reader.text()
        paths = [path for path, _ in plain_paths(model.reader.known())]
        return source.choice(self.PLAIN + [
            "feed " + document[len(text):len(text) + source.choice([1, 1, 2, 5, 40])],
            "feed " + document[len(text):len(text) + source.choice([0, 1, 2])] + source.choice("0,]}x\" "),
            "feed " + document[len(text):len(text) + 1], "back 0", "back 1", f"back {len(text)}",
            f"back {len(text) + 1}",
            "back " + "9" * 60, "limit none", f"limit {min(400, len(document))}",
            f"limit {min(400, len(document) + source.randint(0, 6))}", f"limit {source.randint(0, 400)}", "limit 400",
            "limit 0",
            "pick 0", f"pick {source.randint(0, 30)}", "pick " + "9" * 60, "known " + second_path(source.choice(paths)),
            "known " + second_path(source.choice(paths)), "known .a", "known .0", "known .b.1", "known .zzzzzzzzzzzz",
            "known ." + "8" * 60, "schema flag x", "schema ", "schema (flag | flag)"])

    def test_sequences_of_commands(self):
        source = random.Random(121)
        for schema in samples.small_schemas(source, 150, 150):
            console, model = Console(), Model()
            command = "schema " + schema_text(schema)
            self.assertEqual([outcome(console, command), outcome(model, command)], ["ok", "ok"])
            document = source.choice(samples.documents_of(schema))
            for _ in range(40):
                command = self.random_command(source, model, document)
                if command != "feed ":
                    self.assertEqual(outcome(console, command), outcome(model, command), (schema, command))
                if source.random() < 0.2:
                    before = self.state(console)
                    wrong = source.choice(NO_COMMANDS)
                    self.refuse(console, wrong, BadCommand, {"command": wrong})
                    self.assertEqual(self.state(console), before)
                if not document.startswith(model.reader.text()):
                    document = source.choice([text for text in samples.documents_of(schema)
                                              if text.startswith(model.reader.text())])

    def test_what_is_no_command(self):
        console = Console()
        console.say('schema {a: int 0..3, b: [*flag; a], c?: one of "a" "b"}')
        console.say('feed {"a":2,"b":[t')
        console.say("limit 60")
        before = self.state(console)
        for thing in NO_COMMANDS:
            with self.assertRaises(BadCommand) as caught:
                console.say(thing)
            self.assertIs(caught.exception.command, thing)
            self.assertEqual(self.state(console), before)

    def test_the_console_starts_with_integers_from_0_to_9(self):
        console = Console()
        self.assertEqual(self.state(console), ["", "0123456789", "", "no", "10", "0", "0", "int 0..9", "int 0..9"])
        self.assertEqual(console.say("feed 7"), ". = 7")
        self.assertEqual(self.state(console), ["7", "none", "", "yes", "1", "7", "7", "= 7", "= 7"])

    def test_every_form_of_knowledge(self):
        for schema, fed, answer in (
                ("flag", "", "flag"), ("flag", "t", "= true"), ("int -5..12", "", "int -5..12"),
                ('text "ab" c 2..4', "", 'text "ab" 2..4'), ('one of "" "b"', "", 'text "" 0..1'),
                ("[*flag; 0..3]", "[", "list 0..3"), ("[*flag; 0..3]", "[]", "= []"), ("= {}", "", "= {}"),
                ("{a?: flag, b: flag, c?: = 1}", "", "record a? b! c?"), ("{b: flag}", "{", "record b!"),
                ("(flag | int 0..9 | {} | [*flag; 0..1] | one of \"a\" \"b\")", "",
                 "mixed flag integer list record string"),
                ('= {"b":[1,"x"],"c":{}}', "", '= {"b":[1,"x"],"c":{}}'), ("(= [] | = {})", "", "mixed list record")):
            console = Console()
            console.say("schema " + schema)
            if fed:
                console.say("feed " + fed)
            self.assertEqual([console.say("known"), console.say("known .")], [answer] * 2)

    def test_events(self):
        console = Console()
        console.say("schema {a?: int 0..3, b: flag, c: [*(flag | [*flag; 1..1]); 1..2]}")
        self.assertEqual(console.say('feed {"b'), '. record b! c!\n.a gone')
        self.assertEqual(console.say('feed "'), "nothing")
        self.assertEqual(console.say("feed :t"), ". record b! c!\n.b = true")
        self.assertEqual(console.say('feed rue,"c":[['), ". record b! c!\n.c list 1..2\n.c.0 list 1..1\n.c.0.0 flag")
        self.refuse(console, "feed f?", NotOffered, {"position": 17})
        self.assertEqual(console.say("feed f"), ". record b! c!\n.c list 1..2\n.c.0 = [false]\n.c.0.0 = false")
        self.assertEqual(console.say("known .c.0"), "= [false]")

    def test_paths(self):
        console = Console()
        console.say('schema {abc: [*{d: int 0..9}; 2..3], b?: = [[5,[6]]]}')
        for path, answer in ((".abc", "list 2..3"), (".abc.1", "record d!"), (".abc.1.d", "int 0..9"),
                             (".b.0.1.0", "= 6"), (".b.0", "= [5,[6]]")):
            self.assertEqual(console.say("known " + path), answer)
        for path, told in ((".abc.2", ("abc", 2)), (".0", (0,)), (".abc.d", ("abc", "d")),
                           (".b.0.1.0.0", ("b", 0, 1, 0, 0)),
                           ("." + "a" * 900, ("a" * 900,)), ("." + "9" * 60, (10 ** 60 - 1,)),
                           (".abc.1.d.0", ("abc", 1, "d", 0))):
            self.refuse(console, "known " + path, NoPath, {"path": told})

    def test_numbers(self):
        console = Console()
        console.say("schema [*int 0..99; 0..3]")
        console.say("feed [1")
        many = completions.count(("list", (), ("integer", 0, 99), 0, 3), "[1")
        for word in ("9" * 60, "1" + "0" * 59):
            self.refuse(console, "back " + word, TooFar, {"number": int(word)})
            self.refuse(console, "pick " + word, NoSuchCompletion, {"count": many})
        self.refuse(console, f"pick {many}", NoSuchCompletion, {"count": many})
        self.assertEqual(console.say(f"pick {many - 1}"), "[1]")
        self.refuse(console, "back 3", TooFar, {"number": 3})
        self.assertEqual([console.say("back 0"), console.say("back 2"), console.say("text")], ["ok", "ok", ""])
        self.assertEqual([console.say("pick 0"), console.say("pick 1"), console.say("pick 102")],
                         ["[0,0,0]", "[0,0,10]", "[0,1,10]"])

    def test_limits(self):
        console = Console()
        console.say("schema [*flag; 1..9]".replace("9", "8"))
        self.assertEqual(console.say("limit 400"), "ok")
        self.refuse(console, "limit 401", BadCommand, {"command": "limit 401"})
        self.refuse(console, "limit 5", NoRoom, {"length": 6})
        self.refuse(console, "limit 0", NoRoom, {"length": 6})
        self.assertEqual([console.say("count"), console.say("limit 7"), console.say("count")], ["510", "ok", "2"])
        console.say("feed [f")
        self.assertEqual([console.say("forced"), console.say("limit none"), console.say("forced")],
                         ["alse]", "ok", "alse"])
        self.refuse(console, "limit 6", NoRoom, {"length": 7})
        console.say("limit 7")
        self.assertEqual([console.say("schema flag"), console.say("text"), console.say("count")], ["ok", "", "2"])
        self.assertEqual(console.say("limit 4"), "ok")
        self.assertEqual([console.say("next"), console.say("first"), console.say("shortest")], ["t", "true", "true"])

    def test_schemas(self):
        console = Console()
        console.say("feed 5")
        for text in ("", " ", "flag ", " flag", "int 5..3", "x" * 3000, "flag\n", "int 0..", "FLAG", '"'):
            with self.assertRaises(BadSchema) as wanted:
                parse_schema(text)
            self.refuse(console, "schema " + text, BadSchema, {"position": wanted.exception.position})
            self.assertEqual(console.say("text"), "5")
        self.refuse(console, "schema", BadCommand, {"command": "schema"})
        self.assertEqual(console.say("schema int 0..9"), "ok")
        self.assertEqual(console.say("text"), "")

    def test_what_is_fed_is_taken_as_it_is(self):
        console = Console()
        for text, position in ((" ", 0), (" 5", 0), ("5 ", 1), ("x", 0), ("\n", 0), ("\u0665", 0), ("5\u0665", 1),
                               ("55", 1)):
            self.refuse(console, "feed " + text, NotOffered, {"position": position})
            self.assertEqual(console.say("text"), "")
        for text in ("feed", "feed "):
            self.refuse(console, text, BadCommand, {"command": text})

    def test_two_consoles_share_nothing(self):
        one, other = Console(), Console()
        one.say("schema flag")
        other.say("feed 3")
        self.assertEqual([one.say("text"), other.say("text"), one.say("next"), other.say("next")],
                         ["", "3", "ft", "none"])
        self.assertEqual(Console().say(command="count"), "10")

    def test_counts_that_are_very_great(self):
        letters = 'text "" abcdefghijklmnopqrstuvwxyz 0..12'
        text = letters
        for depth in range(4):
            text = "[*" + text + "; 0..8]"
            console = Console()
            console.say("schema " + text)
            answer = console.say("count")
            many = completions.count(parse_schema(text), "")
            before = sys.get_int_max_str_digits()
            sys.set_int_max_str_digits(0)
            try:
                self.assertEqual(answer, str(many))
            finally:
                sys.set_int_max_str_digits(before)

    def test_decimal(self):
        for power in (0, 1, 18, 63, 64, 65, 127, 128, 129, 255, 256, 257, 1000, 4000):
            for number in (10 ** power - 1, 10 ** power, 10 ** power + 1, 7 * 10 ** power):
                self.assertEqual(decimal(number), str(number))


if __name__ == "__main__":
    unittest.main()
