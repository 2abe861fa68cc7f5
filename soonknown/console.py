"""A console: it executes commands on a reader and answers with texts."""

from soonknown.completions import completion, count, forced_text, shortest
from soonknown.errors import BadCommand
from soonknown.knowledge import knowledge_at
from soonknown.numerals import decimal, whole_number
from soonknown.reader import Reader
from soonknown.texts import parse_schema
from soonknown.values import LETTERS, document, quoted

GREATEST_LIMIT = 400


def knowledge_text(knowledge):
    """Return a knowledge, or None, as answers show it."""
    if knowledge is None:
        return "gone"
    form = knowledge[0]
    if form == "value":
        return "= " + document(knowledge[1])
    if form == "integer":
        return f"int {knowledge[1]}..{knowledge[2]}"
    if form == "string":
        return f"text {quoted(knowledge[1])} {knowledge[2]}..{knowledge[3]}"
    if form == "list":
        return f"list {knowledge[1]}..{knowledge[2]}"
    if form == "record":
        return " ".join(["record", *[row_text(row) for row in knowledge[1]]])
    return " ".join(["mixed", *knowledge[1]]) if form == "mixed" else form


def row_text(row):
    """Return a row of the knowledge of records as answers show it."""
    return row[0] + ("!" if row[1] == "always" else "?")


def path_text(path):
    """Return a path as commands and answers have it."""
    return "." + ".".join([str(step) for step in path])


def event_text(event):
    """Return an event as answers show it."""
    return path_text(event[0]) + " " + knowledge_text(event[1])


def path_of(word):
    """Return the path that a word is, or None."""
    if word == ".":
        return ()
    if not word.startswith("."):
        return None
    steps = [step_of(part) for part in word[1:].split(".")]
    return None if None in steps else tuple(steps)


def step_of(word):
    """Return the name or the position that a word is, or None."""
    if word != "" and [sign for sign in word if sign not in LETTERS] == []:
        return word
    return whole_number(word)


def is_limit(word):
    """Return whether a word is a limit."""
    number = whole_number(word)
    return word == "none" or (number is not None and number <= GREATEST_LIMIT)


class Console:
    """A console. It starts with the integers from 0 to 9."""

    def __init__(self):
        self._set_schema(("integer", 0, 9))

    def _set_schema(self, schema):
        """Begin to read a document of a schema."""
        self._schema = schema
        self._limit = None
        self._reader = Reader(schema)

    def say(self, command):
        """Execute a command and return the answer."""
        if not isinstance(command, str):
            raise BadCommand(command)
        word, space, told = command.partition(" ")
        if space == "":
            return self._answer(command)
        if word == "schema":
            self._set_schema(parse_schema(told))
            return "ok"
        if word == "feed" and told != "":
            events = self._reader.feed(told)
            return "\n".join([event_text(event) for event in events]) if events else "nothing"
        if word == "limit" and is_limit(told):
            return self._set_limit(whole_number(told))
        if word == "known" and path_of(told) is not None:
            return knowledge_text(knowledge_at(self._reader.known(), path_of(told)))
        number = whole_number(told)
        if word == "back" and number is not None:
            self._reader.back(number)
            return "ok"
        if word == "pick" and number is not None:
            return completion(self._schema, self._reader.text(), number, limit=self._limit)
        raise BadCommand(command)

    def _set_limit(self, limit):
        """Read on with another limit."""
        self._reader = self._reader.with_limit(limit)
        self._limit = limit
        return "ok"

    def _answer(self, command):
        """Return the answer to a command of one word."""
        text = self._reader.text()
        if command == "text":
            return text
        if command == "next":
            return "".join(self._reader.offered()) or "none"
        if command == "forced":
            return forced_text(self._schema, text, limit=self._limit)
        if command == "complete":
            return "yes" if self._reader.is_complete() else "no"
        if command == "count":
            return decimal(count(self._schema, text, limit=self._limit))
        if command == "first":
            return completion(self._schema, text, 0, limit=self._limit)
        if command == "shortest":
            return shortest(self._schema, text, limit=self._limit)
        if command == "known":
            return knowledge_text(self._reader.known())
        raise BadCommand(command)
