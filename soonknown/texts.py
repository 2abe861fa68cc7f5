"""The texts of schemas: how a schema is written, and how what is written is read."""

from soonknown.errors import BadSchema
from soonknown.schemas import is_schema
from soonknown.values import DIGITS, LETTERS, document, quoted

LONGEST_TEXT = 2000
MOST_OPEN = 40
# No text of a schema has a line feed: it is refused where the text ends, so no reader asks for the end.
END = "\n"


def schema_text(schema):
    """Return the text of a schema."""
    form = schema[0]
    if form == "integer":
        return "int " + range_text(schema[1], schema[2])
    if form == "choice":
        return "one of " + " ".join([quoted(word) for word in schema[1]])
    if form == "text":
        return f"text {quoted(schema[1])} {schema[2]} {range_text(schema[3], schema[4])}"
    if form == "just":
        return "= " + document(schema[1])
    if form == "list":
        parts = [schema_text(part) for part in schema[1]]
        parts.append("*" + schema_text(schema[2]))
        return "[" + ", ".join(parts) + "; " + range_text(schema[3], schema[4]) + "]"
    if form == "record":
        return "{" + ", ".join([member_text(member) for member in schema[1]]) + "}"
    if form == "repeat":
        return f"same {schema[1]}"
    if form == "sized":
        return f"[*{schema_text(schema[1])}; {schema[2]}]"
    if form == "either":
        return "(" + " | ".join([schema_text(part) for part in schema[1]]) + ")"
    return form


def range_text(least, greatest):
    """Return the text of a range."""
    return f"{least}..{greatest}"


def member_text(member):
    """Return the text of a member of a record schema."""
    name, schema, required = member
    return name + (": " if required else "?: ") + schema_text(schema)


def parse_schema(text):
    """Return the schema of a text."""
    if not isinstance(text, str):
        raise BadSchema(0)
    reading = Reading(text[:LONGEST_TEXT])
    found = reading.read_schema(False)
    if reading.at < len(text):
        raise BadSchema(reading.at)
    if not reading.is_orderly or not is_schema(found):
        raise BadSchema(-1)
    return found


class Reading:
    """A text that is read as that of a schema. What is read refuses the first character that cannot stand there."""

    def __init__(self, text):
        self.padded = text + END
        self.at = 0
        # How many brackets are open.
        self.opened = 0
        # Whether all records in documents have had their members in order so far.
        self.is_orderly = True

    def sign(self):
        """Return the next character."""
        return self.padded[self.at]

    def take(self, word):
        """Read a word that must come next."""
        for sign in word:
            if self.sign() != sign:
                raise BadSchema(self.at)
            self.at += 1

    def open_bracket(self):
        """Read a bracket that opens something."""
        if self.opened == MOST_OPEN:
            raise BadSchema(self.at)
        self.opened += 1
        self.at += 1

    def close_bracket(self, sign):
        """Read the bracket that must come next and closes what was opened last."""
        self.take(sign)
        self.opened -= 1

    def read_signs(self, signs):
        """Read as many characters as there are of some kind, and return them."""
        first = self.at
        while self.sign() in signs:
            self.at += 1
        return self.padded[first:self.at]

    def read_name(self):
        """Read one or more letters and return them."""
        letters = self.read_signs(LETTERS)
        if letters == "":
            raise BadSchema(self.at)
        return letters

    def read_word(self):
        """Read letters, or nothing, between quotes and return them."""
        self.take('"')
        letters = self.read_signs(LETTERS)
        self.take('"')
        return letters

    def read_integer(self):
        """Read an integer and return it."""
        first = self.at
        if self.sign() == "0":
            self.at += 1
            return 0
        if self.sign() == "-":
            self.at += 1
        # A sign is followed by another digit than 0.
        if self.sign() == "0" or self.read_signs(DIGITS) == "":
            raise BadSchema(self.at)
        return int(self.padded[first:self.at])

    def read_range(self):
        """Read two integers and return them."""
        least = self.read_integer()
        self.take("..")
        return least, self.read_integer()

    def read_schema(self, is_alternative):
        """Read a schema and return it; an alternative of an either may be followed by more of them."""
        sign = self.sign()
        if sign == "[":
            return self.read_list()
        if sign == "{":
            return ("record", self.read_members())
        if sign == "(":
            return ("either", self.read_alternatives())
        if sign == "i":
            self.take("int ")
            return ("integer", *self.read_range())
        if sign == "o":
            self.take("one of ")
            return ("choice", self.read_words(is_alternative))
        if sign == "t":
            return self.read_text()
        if sign == "=":
            self.take("= ")
            return ("just", self.read_value())
        if sign == "s":
            self.take("same ")
            return ("repeat", self.read_name())
        self.take("flag")
        return ("flag",)

    def read_words(self, is_alternative):
        """Read the words of a choice and return them as a tuple."""
        words = [self.read_word()]
        while self.sign() == " ":
            following = self.padded[self.at + 1]
            if following == "|" and is_alternative:
                break
            self.at += 1
            words.append(self.read_word())
        return tuple(words)

    def read_text(self):
        """Read the schema of a text and return it."""
        self.take("text ")
        start = self.read_word()
        self.take(" ")
        letters = self.read_name()
        self.take(" ")
        return ("text", start, letters, *self.read_range())

    def read_list(self):
        """Read a list, or a list with the size that a member has, and return it."""
        self.open_bracket()
        leading = []
        while self.sign() != "*":
            leading.append(self.read_schema(False))
            self.take(", ")
        self.take("*")
        item = self.read_schema(False)
        self.take("; ")
        if leading == [] and self.sign() in LETTERS:
            found = ("sized", item, self.read_name())
        else:
            found = ("list", tuple(leading), item, *self.read_range())
        self.close_bracket("]")
        return found

    def read_members(self):
        """Read the members of a record schema with their brackets and return them as a tuple."""
        self.open_bracket()
        members = []
        while self.sign() != "}":
            if members != []:
                self.take(", ")
            members.append(self.read_member())
        self.close_bracket("}")
        return tuple(members)

    def read_member(self):
        """Read a member of a record schema and return it."""
        name = self.read_name()
        required = self.sign() != "?"
        self.take(": " if required else "?: ")
        return (name, self.read_schema(False), required)

    def read_alternatives(self):
        """Read the alternatives of an either with their brackets and return them as a tuple."""
        self.open_bracket()
        alternatives = [self.read_schema(True)]
        while len(alternatives) == 1 or self.sign() != ")":
            self.take(" | ")
            alternatives.append(self.read_schema(True))
        self.close_bracket(")")
        return tuple(alternatives)

    def read_value(self):
        """Read the document of any value, whatever its size and depth, and return the value."""
        sign = self.sign()
        if sign == "[":
            return self.read_items()
        if sign == "{":
            return self.read_record()
        if sign == '"':
            return self.read_word()
        if sign == "t":
            self.take("true")
            return True
        if sign == "f":
            self.take("false")
            return False
        return self.read_integer()

    def read_items(self):
        """Read the document of a list and return the list."""
        self.open_bracket()
        items = []
        while self.sign() != "]":
            if items != []:
                self.take(",")
            items.append(self.read_value())
        self.close_bracket("]")
        return items

    def read_record(self):
        """Read the document of a record and return the record."""
        self.open_bracket()
        record = {}
        before = ""
        while self.sign() != "}":
            if record != {}:
                self.take(",")
            self.take('"')
            name = self.read_name()
            self.take('":')
            if name <= before:
                self.is_orderly = False
            before = name
            record[name] = self.read_value()
        self.close_bracket("}")
        return record
